/-
  The law's roots, ranged over; the roots in memory.
-/
import Derived.Test.YtidgppghakmkaaaHw
set_option linter.unusedVariables false
set_option linter.unusedSimpArgs false
namespace Go.Proofs.Ytidgppghakmkaaa
open Go.RowKit Go.Shelf Hp
attribute [local go_sem] Oper.semAt_some
attribute [local simp] wide_fn

namespace Hp
/-- Six roots in a row. -/
def rv (r : Nat → Cl) (i : Nat) : Value := if i % 2 = 0 then .bool (r (i / 2)).ptr else .int .i64 (r (i / 2)).n
def rowR (r : Nat → Cl) : Array Value := Array.ofFn (n := 12) fun i => rv r i.1
theorem rowR_all (r : Nat → Cl) (i : Nat) : (rowR r)[i]? = if i < 12 then some (rv r i) else none := by
  unfold rowR
  rw [Array.getElem?_ofFn]
  split <;> rfl
theorem rowR_size (r : Nat → Cl) : (rowR r).size = 12 := by simp [rowR]
theorem rowR_ptr (r : Nat → Cl) {i : Nat} (h : i < 6) : (rowR r)[i * 2]? = some (.bool (r i).ptr) := by
  rw [rowR_all, if_pos (by omega)]
  have e1 : i * 2 % 2 = 0 := by omega
  have e2 : i * 2 / 2 = i := by omega
  simp [rv, e1, e2]
theorem rowR_num (r : Nat → Cl) {i : Nat} (h : i < 6) : (rowR r)[i * 2 + 1]? = some (.int .i64 (r i).n) := by
  rw [rowR_all, if_pos (by omega)]
  have e1 : ¬ ((i * 2 + 1) % 2 = 0) := by omega
  have e2 : (i * 2 + 1) / 2 = i := by omega
  simp only [rv, if_neg e1, e2]
theorem rowR_ext {r r' : Nat → Cl} (h : ∀ i, i < 6 → r i = r' i) : rowR r = rowR r' := by
  apply Array.ext_getElem?
  intro i
  rw [rowR_all, rowR_all]
  split
  · simp only [rv]
    rw [h (i / 2) (by omega)]
  · rfl
theorem rowR_set (r r' : Nat → Cl) {i : Nat} (hi : i < 6) (n : Int) (h1 : r' i = ⟨(r i).ptr, n⟩) (h2 : ∀ j, j ≠ i → r' j = r j) : (rowR r).setIfInBounds (i * 2 + 1) (.int .i64 n) = rowR r' := by
  apply Array.ext_getElem?
  intro j
  rw [Array.getElem?_setIfInBounds, rowR_all, rowR_all, rowR_size]
  by_cases hj : j < 12
  · by_cases e : i * 2 + 1 = j
    · rw [if_pos e, if_pos (by omega), if_pos hj]
      have e1 : ¬ (j % 2 = 0) := by omega
      have e2 : j / 2 = i := by omega
      simp only [rv, if_neg e1, e2, h1]
    · rw [if_neg e, if_pos hj, if_pos hj]
      by_cases e2 : j / 2 = i
      · have e1 : j % 2 = 0 := by omega
        simp only [rv, if_pos e1, e2, h1]
      · simp only [rv, h2 _ e2]
  · rw [if_neg (by omega), if_neg hj, if_neg hj]
end Hp

/-- The roots in the block cb. -/
def RtsM (W : World) (cb : Nat) (r : Nat → Cl) : Prop := W.heap[cb]? = some (.cells (rowR r) 43 (0, 0))
theorem RtsM.at {W : World} {cb : Nat} {r : Nat → Cl} (h : RtsM W cb r) {i : Nat} (hi : i < 6) : RootAt W cb (i * 2) (rowR r) 43 (r i).ptr (r i).n := ⟨h, rowR_ptr r hi, rowR_num r hi⟩
/-- What the law's function reads. -/
def LRd (lx cb : Nat) (_ : List Nat) (W : World) : Prop := W.heap[lx]? = some (.cells #[.slice (some ⟨cb, 0, none⟩) 6 6] 31 (0, 0))

set_option maxRecDepth 100000 in
set_option maxHeartbeats 8000000 in
theorem ranged_goes (w : World) (lx cb : Nat) :
    GoesR Try.prog 17 #[] #[.pointer (some ⟨lx, 0, none⟩)] (fun i : Nat => #[.pointer (some ⟨cb, i * 2, none⟩)]) (List.range 6) (LRd lx cb) w := by
  intro l J O hJ hRd hY h0
  refine callsIn_of_wp Try.func17 rfl trivial ?_ rfl
  simp only [Try.ntmps17, List.size_toArray, List.length_cons, List.length_nil, Nat.reduceAdd, Nat.reduceSub, Array.replicate_succ, Array.replicate_zero, List.push_toArray, List.append_toArray, List.nil_append, List.cons_append]
  gi_wp2
  gi_loopw [3] (fun v wr => ∃ (i : Nat) (O1 : Nat → Prop), v = .int .i64 (i : Nat) ∧ i ≤ 6 ∧ J (List.range i) O1 wr ∧ Ch O w wr ∧ (∀ j, O1 j → O j ∨ w.heap.size ≤ j)) (fun v _ => 6 - (intOf v).toNat)
  case atStart => exact ⟨0, O, rfl, by omega, h0, Ch.refl _ _, fun _ h => .inl h⟩
  case round =>
    obtain ⟨i, O1, rfl, hi, hJi, hci, hsub⟩ := hrel
    have hF := hRd _ _ _ hJi
    have c0 : wr.cell? ⟨lx, 0, none⟩ = some (.slice (some ⟨cb, 0, none⟩) 6 6) := by unfold World.cell?; rw [show wr.heap[lx]? = _ from hF]; rfl
    by_cases e : i = 6
    · subst e
      gi_wp2
      go_end0
      exact ⟨⟨_, rfl⟩, O1, hJi, hci, hsub⟩
    · have hlt : i < 6 := by omega
      have hltI : (i : Int) < 6 := by omega
      have eu : List.range (i + 1) = List.range i ++ [i] := List.range_succ
      have hsp : ∃ rest, List.range 6 = List.range i ++ i :: rest := by
        refine ⟨(List.range 6).drop (i + 1), ?_⟩
        rcases (show i = 0 ∨ i = 1 ∨ i = 2 ∨ i = 3 ∨ i = 4 ∨ i = 5 by omega) with rfl | rfl | rfl | rfl | rfl | rfl <;> rfl
      obtain ⟨fn, tmps, assign, body, hy, hR⟩ := hY _ _ O1 _ hJi hsp
      have hw1 : IntKind.i64.wrap ((i : Int) + 1) = (i : Int) + 1 := IntWalk.i64_in _ (by omega)
      clear hF
      gi_wp2
      refine ⟨rfl, hR.mono ?_⟩
      rintro e W3 ⟨rfl, O2, hJ3, hc3, hs3⟩
      have hc4 := hid (hci.trans hc3 hsub)
      have hsz := hci.size
      replace hs3 := hid hs3
      clear hc3 hR hy c0
      dsimp only
      gi_wp2
      go_roundw
      case rel =>
        refine ⟨i + 1, O2, by simp, by omega, ?_, hc4.out, fun j hj => ?_⟩
        · rw [eu]; exact hJ3
        · rcases hs3.out j hj with h | h
          · exact hsub j h
          · exact .inr (by omega)
      case measure => simp [intOf]; omega
end Go.Proofs.Ytidgppghakmkaaa
