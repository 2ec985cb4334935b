/-
  The law's mod, ranged, places.
-/
import Derived.Test.YtidgppghakmkaaaJf
set_option linter.unusedVariables false
set_option linter.unusedSimpArgs false
namespace Go.Proofs.Ytidgppghakmkaaa
open Go.RowKit Go.Shelf Hp Go.Sort
attribute [local simp] wide_fn

def modI (n m : Int) : Int := if n.tmod m < 0 then n.tmod m + m else n.tmod m
theorem modI_pos (n m : Int) (hm : 0 < m) : 0 ≤ modI n m ∧ modI n m < m := by
  have h1 := Int.tmod_lt_of_pos n hm
  have h2 := Int.lt_tmod_of_pos n hm
  unfold modI
  split <;> omega
set_option maxHeartbeats 2000000 in
theorem mod_any (w : World) (n m : Int) (hm : 0 < m) (hm2 : m < 1000000000) :
    Calls Try.prog 5 #[.int .i64 n, .int .i64 m] w fun e w' => e = .returned (.int .i64 (modI n m)) ∧ w' = w := by
  have h1 := Int.tmod_lt_of_pos n hm
  have h2 := Int.lt_tmod_of_pos n hm
  have hne : ¬ m = 0 := by omega
  have hw1 : IntKind.i64.wrap (n.tmod m) = n.tmod m := IntWalk.i64_in _ (by omega)
  have hw2 : IntKind.i64.wrap (n.tmod m + m) = n.tmod m + m := IntWalk.i64_in _ (by omega)
  go_enter Try.func5, Try.ntmps5
  go_wp2
  all_goals
    go_ret
    refine ⟨?_, rfl⟩
    unfold modI
    first
      | (rw [if_pos (by assumption)]; rfl)
      | (rw [if_neg (by omega)]; rfl)

set_option maxHeartbeats 2000000 in
theorem ranged_any (w : World) (ca : Nat) :
    Calls Try.prog 7 #[.slice (some ⟨ca, 0, none⟩) 6 6] w fun e w' => e = .returned (.func (.func 17) #[] #[.pointer (some ⟨w.heap.size, 0, none⟩)]) ∧ LRd w.heap.size ca [] w' ∧ Ch (fun _ => False) w w' := by
  go_enter Try.func7, Try.ntmps7
  go_wp2
  go_ret
  exact ⟨rfl, World.alloc_heap_new w _, (Ch.refl _ w).al _⟩

theorem Try.infoPC : (Try.prog.info? 63).map (fun i => (i.zero, i.size, i.bytes)) = some (some (.pointer none), 1, 8) := by kernel_rfl
def plL (cb i : Nat) : List Value := (List.range i).map fun j => .pointer (some ⟨cb, j * 2, none⟩)
theorem plL_len (cb i : Nat) : (plL cb i).length = i := by simp [plL]
theorem plL_succ (cb i : Nat) : plL cb (i + 1) = plL cb i ++ [.pointer (some ⟨cb, i * 2, none⟩)] := by simp [plL, List.range_succ]
set_option maxRecDepth 100000 in
set_option maxHeartbeats 4000000 in
theorem places_any (w : World) (cb : Nat) :
    Calls Try.prog 9 #[.slice (some ⟨cb, 0, none⟩) 6 6] w fun e w' => ∃ pb pc, e = .returned (.slice (some ⟨pb, 0, none⟩) 6 pc) ∧ PlM w' pb cb ∧ w.heap.size ≤ pb ∧ Ch (fun _ => False) w w' := by
  go_enter Try.func9, Try.ntmps9
  go_wp2
  go_loopw [3, 4] (fun v3 v4 wr => ∃ i, v4 = .int .i64 (i : Nat) ∧ i ≤ 6 ∧ wr.ownsRow 0 63 1 v3 i (plL cb i) ∧ (∀ k, v3.ownBlock = some k → w.heap.size ≤ k) ∧ Ch (fun _ => False) w wr) (fun _ v4 _ => 6 - (intOf v4).toNat)
  case atStart => exact ⟨0, rfl, by omega, ⟨rfl, .inl ⟨rfl, rfl⟩⟩, fun k hk => (by simp [Value.ownBlock] at hk), Ch.refl _ _⟩
  case round =>
    obtain ⟨i, rfl, hi, hrow, hnew, hc⟩ := hrel
    obtain ⟨a, cap, ev, ha, -⟩ := row_slice hrow
    subst ev
    by_cases e : i = 6
    · subst e
      obtain ⟨g, rfl⟩ : ∃ g, a = some ⟨g, 0, none⟩ := ha.resolve_left (by omega)
      go_wp2
      go_ret
      refine ⟨g, cap, rfl, fun j hj => row_cell hrow j _ ?_, hnew g rfl, hc⟩
      simp [plL, hj]
    · have hlt : i < 6 := by omega
      have hltI : (i : Int) < 6 := by omega
      have hw1 : IntKind.i64.wrap ((i : Int) + 1) = (i : Int) + 1 := IntWalk.i64_in _ (by omega)
      have hr1 := ownsRow_keep (w' := wr.alloc (.cells #[.pointer (some ⟨cb, i * 2, none⟩)] 63)) hrow (fun j hj => Below.heap_alloc _ _ _ (ownsRow_lt hrow hj))
      have hAc := new_one wr (.pointer (some ⟨cb, i * 2, none⟩)) 63
      go_wp2_with (at_builtin; go_must (refine list_append rfl (.tmp 11) (.tmp 15) 40 rfl 63 (.pointer none) 1 8 Try.underlying40 Try.infoPC rfl (by decide) (.slice a i cap) i (plL cb i) rfl hr1 ⟨wr.heap.size, 0, none⟩ 1 1 [.pointer (some ⟨cb, i * 2, none⟩)] rfl rfl hAc (by simp [Value.oneCell']) (by unfold maxLen; omega) (by omega) ?_); intro v' w9 hrow9 hgrow9 hblk9)
      have hc9 : Ch (fun k => (Value.slice a i cap).ownBlock = some k) wr w9 := app_ch ((Ch.refl _ wr).al _) hgrow9
      have hz := hc.size
      refine ⟨⟨i + 1, by simp, by omega, by rw [plL_succ]; exact hrow9, fun k hk => ?_, hc.trans hc9 (fun k hk => .inr (hnew k hk))⟩, ?_⟩
      · rcases hblk9 with e9 | e9
        · exact hnew k (e9.symm.trans hk)
        · rw [e9] at hk
          have := Option.some.inj hk
          simp at this
          omega
      · simp only [intOf]
        omega
/-- A world in which all old blocks stand. -/
structure ChBy (w : World) where
  v : World
  h : Ch (fun _ => False) w v
instance (w : World) : Inhabited (ChBy w) := ⟨⟨w, Ch.refl _ w⟩⟩
theorem wp_region_quiet_ch {P : Program} {id : Nat} {Q : Exit → Act → World → Prop} {a : Act} {w : World} {l : List Oper} (hm : P.follows .mixedOrders = true) (hB : Region.lexB .any l.toArray = true)
    (h : wpQuiet P l.toArray (fun w' => ∃ p : ChBy w, w' = p.v) (fun a' => ∀ w', (∃ p : ChBy w, w' = p.v) → Q .normal a' w') l a) : (Code.region id l.toArray true).wp P Q a w :=
  wp_region_quiet (C := fun w' => ∃ p : ChBy w, w' = p.v) hm hB ⟨⟨w.drew, Ch.drew _ w⟩, rfl⟩ (by simpa using h)
theorem Calls.ch_of {P : Program} {f : FuncId} {args : Array Value} {w : World} {p : ChBy w} {v : Value} (h : Calls P f args p.v fun e w' => e = .returned v ∧ Ch (fun _ => False) p.v w') : Calls P f args p.v fun e w'' => e = .returned v ∧ ∃ p : ChBy w, w'' = p.v :=
  h.mono fun _ w'' ⟨he, hq⟩ => ⟨he, ⟨w'', p.h.trans hq (fun _ h => .inl h)⟩, rfl⟩
theorem cell_ch {w : World} {a : Addr} {v : Value} (h : w.cell? a = some v) (p : ChBy w) : p.v.cell? a = some v := by
  rw [← h]
  exact p.h.cell (block_lt_of_cell h) (fun h => h)
end Go.Proofs.Ytidgppghakmkaaa
