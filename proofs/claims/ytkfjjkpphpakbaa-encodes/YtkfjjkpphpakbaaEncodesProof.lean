/-
  For every code the statement Encodes answers true and the code reads as it did: what the program's Encode writes, or its fault, is what the document's Encode does. No condition.
-/
import Derived.Test.YtkfjjkpphpakbaaQa
import Derived.Test.YtkfjjkpphpakbaaCe
import Derived.Test.YtkfjjkpphpakbaaPh
set_option linter.unusedVariables false
set_option linter.unusedSimpArgs false
namespace Go.Proofs.Ytkfjjkpphpakbaa
open Go.ChangeShapes Go.WideShapes Go.ChangeAt Go.RowKit Go.Deep

set_option maxHeartbeats 1000000 in
theorem Encodes_any (C : Cd.Code) (b c d : Value) (w : World) (hM : CodeM w b c d C) (hL : C.lens) :
    Calls Try.prog 3 #[codeV C b c d] w fun e w' => e = .returned (.bool true) ∧ Below w.heap.size w w' := by
  have HM := hid hM
  obtain ⟨⟨ao, co, rfl, hco, hx1⟩, ⟨ah, ch, rfl, hch, hx2⟩, ⟨af, cf, rfl, hcf, hx3⟩⟩ := hM
  clear hx1 hx2 hx3
  have HP := hid (fun (W : World) (hb : Below w.heap.size w W) => cencode_any C _ _ _ W (HM.out.keep hb) hL)
  have HR := hid (fun (W : World) (hb : Below w.heap.size w W) => encode_any C _ _ _ W (HM.out.keep hb))
  unfold codeVp encP at HP
  unfold codeV encE at HR
  unfold codeV
  have hB0 := hid ((Below.refl w.heap.size w).alloc (Nat.le_refl _) (.cells #[.string ⟨C.shape.toArray⟩, .slice ao C.ops.length co, .slice ah C.hans.length ch, .slice af C.funs.length cf] 26))
  generalize (Cd.enc C).1 = bs at *
  generalize (Cd.enc C).2 = ec at *
  go_enter Try.func3, Try.ntmps3
  go_wp2_with (first
    | (go_at_call 5; refine (HP.out _ hB0.out).mono ?_; clear HP; rintro en w1 ⟨rfl, h1⟩
       have q0 := kc h1 (show (w.alloc (.cells #[.string ⟨C.shape.toArray⟩, .slice ao C.ops.length co, .slice ah C.hans.length ch, .slice af C.funs.length cf] 26)).cell? ⟨w.heap.size, 0, none⟩ = some (.string ⟨C.shape.toArray⟩) by simp)
       have q1 := kc h1 (show (w.alloc (.cells #[.string ⟨C.shape.toArray⟩, .slice ao C.ops.length co, .slice ah C.hans.length ch, .slice af C.funs.length cf] 26)).cell? ⟨w.heap.size, 1, none⟩ = some (.slice ao C.ops.length co) by simp)
       have q2 := kc h1 (show (w.alloc (.cells #[.string ⟨C.shape.toArray⟩, .slice ao C.ops.length co, .slice ah C.hans.length ch, .slice af C.funs.length cf] 26)).cell? ⟨w.heap.size, 2, none⟩ = some (.slice ah C.hans.length ch) by simp)
       have q3 := kc h1 (show (w.alloc (.cells #[.string ⟨C.shape.toArray⟩, .slice ao C.ops.length co, .slice ah C.hans.length ch, .slice af C.funs.length cf] 26)).cell? ⟨w.heap.size, 3, none⟩ = some (.slice af C.funs.length cf) by simp)
       have hB1 := hid (hB0.out.trans (h1.mono (by simp)))
       clear h1 hB0)
    | (go_at_call 6; refine (HR.out _ hB1.out).mono ?_; clear HR; rintro en w2 ⟨rfl, h2⟩
       have hB2 := hid (hB1.out.trans (h2.mono hB1.out.size))
       clear h2)
    | go_in)
  go_ret
  exact ⟨rfl, hB2.out⟩

theorem contract (H : Type) (enc : TypeId × Value → H) (W : World) (base : Nat) (args : Array Value) (ds gs : List (DataW H)) (before : List MemPlace)
    (hval : ∀ (j : Nat) t v, Try.f3.params[j]? = some t → args[j]? = some v → Value.okWide Try.prog W .any base t v)
    (hW : DataW.Whole enc Try.prog Try.f3.params.toList Rows.encodesSpec.vars false W args.toList ds gs before) :
    Calls Try.prog 3 args W fun e W' => ∃ v, e = .returned v ∧ Rows.encodesSpec.post enc Try.prog Try.f3 false true false false W args v W' := by
  have hW' := hW
  obtain ⟨p, q, hA0, hV, rfl, hfz, hnd⟩ := hW
  have hA : DataW.TrodAll enc Try.prog W 0 (fun _ => true) true Try.f3.params.toList args.toList ds p := hA0
  rw [Try.params3] at hA hval
  obtain ⟨v0, d0, rfl, rfl, h0⟩ := trodAll_one hA
  obtain ⟨rfl, rfl⟩ := trodVars_none hV
  obtain ⟨cs, rfl⟩ := okWide_code (hval 0 26 v0 rfl rfl)
  obtain ⟨fuel, hf⟩ := id h0
  obtain ⟨C, b, c, d, hcs, hM, hR, hs, hL⟩ := code_of hf
  have hcs2 : cs = #[.string ⟨C.shape.toArray⟩, b, c, d] := by
    have e : cs.toList = [.string ⟨C.shape.toArray⟩, b, c, d] := by simpa [Value.cells] using hcs
    rw [← Array.toArray_toList (xs := cs), e]
  subst hcs2
  simp only [List.append_nil] at hW'
  have hlt : ∀ x ∈ p, x.block < W.heap.size := fun x hx => by simpa using hW'.lt x hx
  refine (Encodes_any C b c d W hM hL).mono fun e W' ⟨he, hb⟩ => ?_
  subst he
  refine ⟨_, rfl, _, _, _, [], p, [], hW', ?_, ?_, rfl, below_kept hb _, fun h => by cases h⟩
  · exact trodAll_mk1 (shut_bool Try.underlying4 _)
  · exact trodAll_mk1 (WideElems.Trod_stays (by kernel_rfl) (by kernel_rfl) (of_decide_eq_true (by kernel_rfl)) h0 (fun x hx => below_same_at hb (hlt x hx)) (fun x hx => by simpa using hlt x hx))

set_option maxRecDepth 100000 in
theorem lifted (os : Os) (started : os.Started) (H : Type) (enc : TypeId × Value → H) :
    ReturnsInHanded {} Try.checked os 3 .any (Rows.encodesSpec.pre6 enc Try.prog Try.f3 Rows.encodesRow.domain false) (Rows.encodesSpec.post enc Try.prog Try.f3 false true false false) := by
  refine returnsInHanded_of_change (C := Try.checked) knob started (by kernel_rfl) Try.func3
    (ChangeSpec.witness6 (enc := enc) (C := Try.checked) false ⟨#[], #[.agg #[.string ⟨#[]⟩, .slice none 0 0, .slice none 0 0, .slice none 0 0]], []⟩ 8 (by kernel_rfl) (by kernel_rfl) (by kernel_rfl) (by kernel_rfl)) ?_
  intro W base args ds gs before hval hW _ _
  exact contract H enc W base args ds gs before hval hW

theorem encodes_holds : Rows.EncodesSaid :=
  OpenClaim.holds_of_wide 3 Try.f3 rfl rfl rfl rfl rfl rfl rfl ⟨rfl, rfl, rfl, rfl, rfl⟩ rfl rfl rfl rfl rfl (by kernel_rfl) Try.func3 (by kernel_rfl)
    (of_decide_eq_true (by kernel_rfl)) (by unfold Func.isWrapper; first | (rw [if_pos (by decide +kernel)]; kernel_rfl) | (rw [if_neg (by decide +kernel)]; exact ⟨rfl, rfl⟩))
    (fun os started H enc _ => lifted os started H enc)
#print axioms encodes_holds
end Go.Proofs.Ytkfjjkpphpakbaa
