/-
  The document's check of a type, where it says no ahead of its loops.
-/
import Derived.Test.YtkpfadapgjijgabDoorPA
namespace Go.Proofs.YtkpfadapgjijgabDoor
open Go.RowKit

theorem below_dn {B : Nat} {a w : World} (h : Below B a w) (q : Nat) : Below B a (w.drewN q) := ⟨h.os, h.tape, h.output, h.size, h.block⟩

def PropPost (w0 w : World) (k n r : Int) (os az : Value) (en : Ending) (w' : World) : Prop :=
  ∃ (c : Int) (ok : Bool), en = .returned (.tuple #[.int .i64 c, .bool ok]) ∧ Below w.heap.size w w' ∧
    (ok = true → ∃ t : Ty.P, t.ok ∧ k = t.kind ∧ n = t.num ∧ r = t.row ∧ IsT w0 t os az ∧ c = t.parts ∧ t.parts ≤ 300)
theorem prop_no {w0 w w' : World} {k n r c : Int} {os az : Value} (hb : Below w.heap.size w w') : PropPost w0 w k n r os az (.returned (.tuple #[.int .i64 c, .bool false])) w' :=
  ⟨c, false, rfl, hb, fun h => by cases h⟩

set_option maxHeartbeats 1000000 in
theorem proper_deep (w0 w : World) (k n r d : Int) (os az : Value) (hd : 300 < d) :
    Calls Tryd.prog 7 #[.agg #[.int .i64 k, .int .i64 n, .int .i64 r, os, az], .int .i64 d] w fun en w' => PropPost w0 w k n r os az en w' := by
  have hdd : decide (300 < d) = true := by simpa using hd
  go_enter Tryd.func7, Tryd.ntmps7
  go_wp2_with fail
  go_quiet ((go_at_call 11; exact Calls.quiet_of_same (args_any _ _)))
  go_wp2_with fail
  go_ret2
  exact prop_no (by repeat (with_reducible (first | exact Below.refl _ _ | apply Below.drew | apply below_dn | refine Below.alloc ?_ (by simp) _)))
set_option maxHeartbeats 1000000 in
theorem proper_args (w0 w : World) (k n r d : Int) (ao aa : Option Addr) (lo co la ca : Nat) (hd : ¬ 300 < d) (ha : ¬ (la : Int) = argsN k) :
    Calls Tryd.prog 7 #[.agg #[.int .i64 k, .int .i64 n, .int .i64 r, .slice ao lo co, .slice aa la ca], .int .i64 d] w
      fun en w' => PropPost w0 w k n r (.slice ao lo co) (.slice aa la ca) en w' := by
  have hdd : decide (300 < d) = false := by simpa using hd
  have hab : ((la : Int) != argsN k) = true := by simpa using ha
  go_enter Tryd.func7, Tryd.ntmps7
  go_wp2_with fail
  go_quiet ((go_at_call 11; exact Calls.quiet_of_same (args_any _ _)))
  go_wp2_with fail
  go_ret2
  exact prop_no (by repeat (with_reducible (first | exact Below.refl _ _ | apply Below.drew | apply below_dn | refine Below.alloc ?_ (by simp) _)))
set_option maxHeartbeats 1000000 in
theorem proper_many (w0 w : World) (k n r d : Int) (ao aa : Option Addr) (lo co la ca : Nat) (hd : ¬ 300 < d) (ha : (la : Int) = argsN k) (hl : 300 < lo) :
    Calls Tryd.prog 7 #[.agg #[.int .i64 k, .int .i64 n, .int .i64 r, .slice ao lo co, .slice aa la ca], .int .i64 d] w
      fun en w' => PropPost w0 w k n r (.slice ao lo co) (.slice aa la ca) en w' := by
  have hdd : decide (300 < d) = false := by simpa using hd
  have hab : ((la : Int) != argsN k) = false := by simpa using ha
  have hlb : decide ((300 : Int) < lo) = true := by simp; omega
  clear ha
  go_enter Tryd.func7, Tryd.ntmps7
  go_wp2_with fail
  go_quiet ((go_at_call 11; exact Calls.quiet_of_same (args_any _ _)))
  go_wp2_with fail
  go_ret2
  exact prop_no (by repeat (with_reducible (first | exact Below.refl _ _ | apply Below.drew | apply below_dn | refine Below.alloc ?_ (by simp) _)))

/-- What is looked at ahead of the loops. -/
def fine (k n r : Int) (lo : Nat) : Prop := (k = 0 → 1 ≤ n ∧ n ≤ 1000000000) ∧ (k ≠ 0 → n = 0) ∧ (k ≠ 6 → lo = 0 ∧ r = 0) ∧ 0 ≤ r ∧ r ≤ 1000000000

set_option maxHeartbeats 4000000 in
theorem proper_odd (w0 w : World) (k n r d : Int) (ao aa : Option Addr) (lo co la ca : Nat) (hd : ¬ 300 < d) (ha : (la : Int) = argsN k) (hl : ¬ 300 < lo) (hf : ¬ fine k n r lo) :
    Calls Tryd.prog 7 #[.agg #[.int .i64 k, .int .i64 n, .int .i64 r, .slice ao lo co, .slice aa la ca], .int .i64 d] w
      fun en w' => PropPost w0 w k n r (.slice ao lo co) (.slice aa la ca) en w' := by
  have hdd : decide (300 < d) = false := by simpa using hd
  have hab : ((la : Int) != argsN k) = false := by simpa using ha
  have hlb : decide ((300 : Int) < lo) = false := by simp; omega
  clear ha
  have hc : (k = 0 ∧ n < 1) ∨ (k = 0 ∧ ¬ n < 1 ∧ 1000000000 < n) ∨ (k ≠ 0 ∧ n ≠ 0) ∨
      (k ≠ 6 ∧ 0 < lo ∧ ((k = 0 ∧ ¬ n < 1 ∧ ¬ 1000000000 < n) ∨ (k ≠ 0 ∧ n = 0))) ∨
      (k ≠ 6 ∧ lo = 0 ∧ r ≠ 0 ∧ ((k = 0 ∧ ¬ n < 1 ∧ ¬ 1000000000 < n) ∨ (k ≠ 0 ∧ n = 0))) ∨
      (k = 6 ∧ n = 0 ∧ r < 0) ∨ (k = 6 ∧ n = 0 ∧ ¬ r < 0 ∧ 1000000000 < r) := by
    unfold fine at hf
    by_cases k0 : k = 0
    · subst k0; simp at hf ⊢; omega
    · by_cases k6 : k = 6
      · subst k6; simp at hf ⊢; omega
      · simp [k0, k6] at hf ⊢; omega
  clear hf
  go_enter Tryd.func7, Tryd.ntmps7
  go_wp2_with fail
  go_quiet ((go_at_call 11; exact Calls.quiet_of_same (args_any _ _)))
  rcases hc with ⟨rfl, h1⟩ | ⟨rfl, h1, h2⟩ | ⟨h1, h2⟩ | ⟨h1, h2, (⟨rfl, h3, h4⟩ | ⟨h3, rfl⟩)⟩ | ⟨h1, rfl, h2, (⟨rfl, h3, h4⟩ | ⟨h3, rfl⟩)⟩ | ⟨rfl, rfl, h1⟩ | ⟨rfl, rfl, h1, h2⟩
  all_goals
    go_wp2_with fail
    go_ret2
    exact prop_no (by repeat (with_reducible (first | exact Below.refl _ _ | apply Below.drew | apply below_dn | refine Below.alloc ?_ (by simp) _)))
end Go.Proofs.YtkpfadapgjijgabDoor
