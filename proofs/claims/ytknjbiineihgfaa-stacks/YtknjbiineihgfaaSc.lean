/-
  Ranging over the segments of a row: all and what it answers.
-/
import Derived.Test.YtknjbiineihgfaaSb
import Derived.Shelf.Abstract
import Derived.Shelf.RegionOpen
import Derived.OwnWalkIn
import Derived.TacticsInMore
import Derived.LoopNIn
import Derived.LoopIn
set_option linter.unusedVariables false
set_option linter.unusedSimpArgs false
namespace Go.Proofs.Ytknjbiineihgfaa
open Go.RowKit Go.Shelf
attribute [local go_sem] Oper.semAt_some

/-- A row's value, out of its six cells. -/
abbrev rowV (v p s t h c : Value) : Value := .agg #[v, p, s, t, h, c]

set_option maxHeartbeats 1000000 in
theorem all_any (w : World) (v p s t h c : Value) :
    Calls Try.prog 45 #[rowV v p s t h c] w fun e w' => e = .returned (.func (.func 49) #[] #[.pointer (some ⟨w.heap.size, 0, none⟩)]) ∧ w' = w.alloc (.cells #[v, p, s, t, h, c] 59) := by
  go_enter Try.func45, Try.ntmps45
  unfold rowV
  go_wp2
  go_ret
  exact ⟨rfl, rfl⟩

/-- Where the segments of a row lie. -/
def places (b g n : Nat) : List (Nat × Addr) := (List.range (n + 1)).map fun i => (i, if i = n then ⟨b, 1, none⟩ else ⟨g, i * 4, none⟩)
abbrev placeV (x : Nat × Addr) : Array Value := #[.int .i64 x.1, .pointer (some x.2)]
theorem places_take (b g n k : Nat) (h : k < n + 1) : places b g n = (places b g n).take k ++ (k, if k = n then ⟨b, 1, none⟩ else ⟨g, k * 4, none⟩) :: (places b g n).drop (k + 1) := by
  have hl : k < (places b g n).length := by simp [places]; omega
  have e : (places b g n)[k] = (k, if k = n then ⟨b, 1, none⟩ else ⟨g, k * 4, none⟩) := by simp [places]
  rw [← e, ← List.drop_eq_getElem_cons hl, List.take_append_drop]
theorem places_succ (b g n k : Nat) (h : k < n + 1) : (places b g n).take (k + 1) = (places b g n).take k ++ [(k, if k = n then ⟨b, 1, none⟩ else ⟨g, k * 4, none⟩)] := by
  have hl : k < (places b g n).length := by simp [places]; omega
  rw [List.take_succ_eq_append_getElem hl]
  simp [places]

set_option maxRecDepth 100000 in
set_option maxHeartbeats 4000000 in
theorem all1_goes (w : World) (b g n : Nat) (a : Option Addr) (cap : Nat) (h : w.cell? ⟨b, 0, none⟩ = some (.slice a n cap)) (ha : n = 0 ∨ a = some ⟨g, 0, none⟩) (hn : n < 1000000000000) :
    Goes Try.prog 49 #[.pointer (some ⟨b, 0, none⟩)] placeV (places b g n) (fun k => k = b) w := by
  intro l J O hJ hDO hY h0
  have hbl : b < w.heap.size := block_lt_of_cell h
  have hbO := hDO b rfl
  refine callsIn_of_wp Try.func49 rfl trivial ?_ rfl
  simp only [Try.ntmps49, List.size_toArray, List.length_cons, List.length_nil, Nat.reduceAdd, Nat.reduceSub, Array.replicate_succ, Array.replicate_zero, List.push_toArray, List.append_toArray, List.nil_append, List.cons_append]
  gi_wp2_with (refine ⟨trivial, rfl, (callsIn_wide.2 (segments_any w b n a cap h hn)).mono ?_⟩; rintro e w ⟨rfl, rfl⟩; dsimp only)
  gi_loopw [5] (fun i wr => ∃ (k : Nat) (O1 : Nat → Prop), i = .int .i64 k ∧ k ≤ n + 1 ∧ J ((places b g n).take k) O1 wr ∧ Ch O w wr ∧ (∀ j, O1 j → O j ∨ w.heap.size ≤ j)) (fun i _ => (n + 1) - (intOf i).toNat)
  case atStart => exact ⟨0, O, rfl, by omega, h0, Ch.refl _ _, fun _ h => .inl h⟩
  case round =>
    obtain ⟨k, O1, rfl, hk, hJk, hck, hsub⟩ := hrel
    have hc : wr.cell? ⟨b, 0, none⟩ = some (.slice a n cap) := (hck.cell (p := ⟨b, 0, none⟩) hbl hbO).trans h
    by_cases e : k = n + 1
    · subst e
      gi_wp2
      go_end0
      have et : (places b g n).take (n + 1) = places b g n := List.take_of_length_le (by simp [places])
      rw [et] at hJk
      exact ⟨⟨_, rfl⟩, O1, hJk, hck, hsub⟩
    · have hlt : k < n + 1 := by omega
      have hw : IntKind.i64.wrap ((k : Int) + 1) = ((k + 1 : Nat) : Int) := by rw [IntWalk.i64_in _ (by omega)]; omega
      obtain ⟨fn, tmps, assign, body, hy, hR⟩ := hY _ _ O1 wr hJk ⟨_, places_take b g n k hlt⟩
      have hat : Calls Try.prog 32 #[.pointer (some ⟨b, 0, none⟩), .int .i64 k] wr fun e w' => e = .returned (.pointer (some (if k = n then ⟨b, 1, none⟩ else ⟨g, k * 4, none⟩))) ∧ w' = wr := by
        by_cases ek : k = n
        · subst ek; rw [if_pos rfl]; exact at_inner wr b k a cap hc
        · rw [if_neg ek]
          obtain rfl : a = some ⟨g, 0, none⟩ := by rcases ha with h | h; omega; exact h
          exact at_outer wr b n k g cap hc (by omega)
      unfold placeV at hy
      generalize hq : (if k = n then (⟨b, 1, none⟩ : Addr) else ⟨g, k * 4, none⟩) = q at hy hR hat
      dsimp only at hy
      have hcond : (k : Int) < ((n + 1 : Nat) : Int) := by omega
      gi_wp2_with (refine ⟨trivial, rfl, (callsIn_wide.2 hat).mono ?_⟩; clear hat; rintro e wr ⟨rfl, rfl⟩; dsimp only)
      refine ⟨rfl, hR.mono ?_⟩
      rintro e W3 ⟨rfl, O2, hJ3, hc3, hs3⟩
      dsimp only
      gi_wp2
      go_roundw
      case rel =>
        refine ⟨k + 1, O2, by simp, by omega, ?_, hck.trans hc3 hsub, fun j hj => ?_⟩
        · rw [places_succ b g n k hlt, hq]; exact hJ3
        · rcases hs3 j hj with h | h
          · exact hsub j h
          · have := hck.size; exact .inr (by omega)
      case measure => simp [intOf]; omega
end Go.Proofs.Ytknjbiineihgfaa
