/-
  For every number of cells and every list of operations the statement Heaps answers true, and the list reads as it did: whatever is made, set, forgotten and collected, the program's heap has each thing that is reached where the document has it, and there is no room just where the document has none. No condition.
-/
import Derived.Test.YtidgppghakmkaaaRows
import Derived.Test.YtidgppghakmkaaaKj
import Derived.ProofKit
import Derived.OpenShut
import Derived.Carry
import Derived.Deep.Slices
import Derived.JoinedOf
import Derived.Handed
set_option linter.unusedVariables false
set_option linter.unusedSimpArgs false
namespace Go.Proofs.Ytidgppghakmkaaa
open Go.ChangeShapes Go.WideShapes Go.ChangeAt Go.RowKit Go.Deep

theorem knob : ownKnob Try.prog.godebug = none := by kernel_rfl
theorem at_plain (g k i : Nat) : (⟨g, k, none⟩ : Addr).add i = ⟨g, k + i, none⟩ := by simp [Addr.add]

/-- What the argument reads as lies in memory as the walk wants it. -/
theorem arg_of {H : Type} {enc : TypeId × Value → H} {W : World} {sp : Nat → Bool} {hd : Bool} {fuel : Nat} {cs : List Value} {x : DataW H × List MemPlace} (h : DataW.trod enc Try.prog W 0 sp hd fuel 22 cs = some x) :
    ∃ la ln lc, cs = [.slice la ln lc] ∧ Arg5 W la ln := by
  have hc2 : Try.prog.cellsOf 33 = 5 := by kernel_rfl
  have hc3 : Try.prog.cellsOf 3 = 1 := by kernel_rfl
  rcases open_slice Try.underlying22 h with ⟨hcs, _⟩ | ⟨a, len, cap, mm, nn, D, Pl, hcs, _, hlc, _, hmm, _, hcell⟩
  · exact ⟨none, 0, 0, hcs, fun i hi => by omega⟩
  · have hlm : len ≤ mm := by rw [hmm]; split <;> omega
    rw [hc2] at hcell
    refine ⟨some a, len, cap, hcs, fun i hi => ?_⟩
    obtain ⟨cs', h1, h2⟩ := hcell i (by omega)
    have hs := World.cells?_some h1
    obtain ⟨xs, q, hq, hx, hl, hxl, hf⟩ := DataW.trod_struct Try.underlying33 h2
    have hl2 : cs'.length = 5 := hl.trans (by kernel_rfl)
    match xs, hxl, cs', hl2, hs, hf with
    | [y0, y1, y2, y3, y4], _, [v0, v1, v2, v3, v4], _, hs, hf =>
      have e0 := hf 0 _ rfl
      have e1 := hf 1 _ rfl
      have e2 := hf 2 _ rfl
      have e3 := hf 3 _ rfl
      have e4 := hf 4 _ rfl
      simp [hc3] at e0 e1 e2 e3 e4
      obtain ⟨a0, e0, _, _⟩ := DataW.trod_int Try.underlying3 e0
      obtain ⟨a1, e1, _, _⟩ := DataW.trod_int Try.underlying3 e1
      obtain ⟨a2, e2, _, _⟩ := DataW.trod_int Try.underlying3 e2
      obtain ⟨a3, e3, _, _⟩ := DataW.trod_int Try.underlying3 e3
      obtain ⟨a4, e4, _, _⟩ := DataW.trod_int Try.underlying3 e4
      simp only [List.cons.injEq, and_true] at e0 e1 e2 e3 e4
      subst e0 e1 e2 e3 e4
      have c0 := hs.2.2 0 (by omega)
      have c1 := hs.2.2 1 (by omega)
      have c2 := hs.2.2 2 (by omega)
      have c3 := hs.2.2 3 (by omega)
      have c4 := hs.2.2 4 (by omega)
      obtain ⟨b, off, spot⟩ := a
      have hspot : spot = none := by
        obtain ⟨cs0, h10, _⟩ := hcell 0 (by omega)
        have hs0 := World.cells?_some h10
        have hlen0 : cs0.length = 5 := hs0.2.1
        have c00 := hs0.2.2 0 (by omega)
        rw [List.getElem?_eq_getElem (show 0 < cs0.length by omega)] at c00
        exact World.cell?_spot (w := W) (a := ⟨b, off, spot⟩) (by simpa [Addr.add] using c00)
      subst hspot
      rw [at_plain, at_plain] at c0 c1 c2 c3 c4
      exact ⟨b, off, a0, a1, a2, a3, a4, rfl, by simpa using c0, by simpa using c1, by simpa using c2, by simpa using c3, by simpa using c4⟩

theorem Ch.same_at {W W' : World} (h : Ch (fun _ => False) W W') {p : MemPlace} (hp : p.block < W.heap.size) : W.sameAt W' p := by
  cases p with
  | cell b o => exact World.cell?_of_block (w := W) (h.same b hp (fun h => h))
  | map b => exact h.same b hp (fun h => h)
theorem Ch.kept {W W' : World} (h : Ch (fun _ => False) W W') (may : MemPlace → Prop) : W.keptBut W' may := by
  refine ⟨h.eo.1, h.eo.2, fun i hi => ?_⟩
  rw [h.same i hi (fun h => h)]
  split <;> simp_all

theorem contract (H : Type) (enc : TypeId × Value → H) (W : World) (base : Nat) (args : Array Value) (ds gs : List (DataW H)) (before : List MemPlace)
    (hval : ∀ (j : Nat) t v, Try.f3.params[j]? = some t → args[j]? = some v → Value.okWide Try.prog W .any base t v)
    (hW : DataW.Whole enc Try.prog Try.f3.params.toList Rows.heapsSpec.vars false W args.toList ds gs before) :
    Calls Try.prog 3 args W fun e W' => ∃ v, e = .returned v ∧ Rows.heapsSpec.post enc Try.prog Try.f3 false true false false W args v W' := by
  have hW' := hW
  obtain ⟨p, q, hA0, hV, rfl, hfz, hnd⟩ := hW
  have hA : DataW.TrodAll enc Try.prog W 0 (fun _ => true) true Try.f3.params.toList args.toList ds p := hA0
  rw [Try.params3] at hA hval
  obtain ⟨v0, v1, d0, d1, p0, p1, rfl, rfl, rfl, h0, h1⟩ := trodAll_two hA
  obtain ⟨rfl, rfl⟩ := trodVars_none hV
  obtain ⟨n0, rfl⟩ := okWide_int Try.underlying3 (hval 0 3 v0 rfl rfl)
  obtain ⟨a0, len, cap, rfl⟩ := okWide_slice Try.underlying22 (hval 1 22 v1 rfl rfl)
  obtain ⟨fuel, hf⟩ := id h1
  obtain ⟨la, ln, lc, hcs, harg⟩ := arg_of hf
  have hcs2 : a0 = la ∧ len = ln ∧ cap = lc := by simpa [Value.cells] using hcs
  obtain ⟨rfl, rfl, rfl⟩ := hcs2
  simp only [List.append_nil] at hW'
  have hlt : ∀ x ∈ p0 ++ p1, x.block < W.heap.size := fun x hx => by simpa using hW'.lt x hx
  refine (Heaps_any W n0 a0 len cap harg).mono fun e W' ⟨he, hb⟩ => ?_
  subst he
  refine ⟨_, rfl, _, _, _, [], p0 ++ p1, [], hW', ?_, ?_, rfl, hb.kept _, fun h => by cases h⟩
  · exact trodAll_mk1 (shut_bool Try.underlying4 _)
  · exact trodAll_mk2 (WideElems.Trod_stays (by kernel_rfl) (by kernel_rfl) (of_decide_eq_true (by kernel_rfl)) h0 (fun x hx => hb.same_at (hlt x (List.mem_append.2 (.inl hx)))) (fun x hx => decide_eq_true (hlt x (List.mem_append.2 (.inl hx))))) (WideElems.Trod_stays (by kernel_rfl) (by kernel_rfl) (of_decide_eq_true (by kernel_rfl)) h1 (fun x hx => hb.same_at (hlt x (List.mem_append.2 (.inr hx)))) (fun x hx => decide_eq_true (hlt x (List.mem_append.2 (.inr hx)))))

set_option maxRecDepth 100000 in
theorem lifted (os : Os) (started : os.Started) (H : Type) (enc : TypeId × Value → H) :
    ReturnsInHanded {} Try.checked os 3 .any (Rows.heapsSpec.pre6 enc Try.prog Try.f3 Rows.heapsRow.domain false) (Rows.heapsSpec.post enc Try.prog Try.f3 false true false false) := by
  refine returnsInHanded_of_change (C := Try.checked) knob started (by kernel_rfl) Try.func3
    (ChangeSpec.witness6 (enc := enc) (C := Try.checked) false ⟨#[], #[.int .i64 0, .slice none 0 0], []⟩ 8 (by kernel_rfl) (by kernel_rfl) (by kernel_rfl) (by kernel_rfl)) ?_
  intro W base args ds gs before hval hW _ _
  exact contract H enc W base args ds gs before hval hW

theorem heaps_holds : Rows.HeapsSaid :=
  OpenClaim.holds_of_wide 3 Try.f3 rfl rfl rfl rfl rfl rfl rfl ⟨rfl, rfl, rfl, rfl, rfl⟩ rfl rfl rfl rfl rfl (by kernel_rfl) Try.func3 (by kernel_rfl)
    (of_decide_eq_true (by kernel_rfl)) (by unfold Func.isWrapper; first | (rw [if_pos (by decide +kernel)]; kernel_rfl) | (rw [if_neg (by decide +kernel)]; exact ⟨rfl, rfl⟩))
    (fun os started H enc _ => lifted os started H enc)
#print axioms heaps_holds
end Go.Proofs.Ytidgppghakmkaaa
