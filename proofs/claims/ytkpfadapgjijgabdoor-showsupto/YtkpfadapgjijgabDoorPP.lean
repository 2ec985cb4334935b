/-
  What the program's check of a type answers, of a type that is proper: true.
-/
import Derived.Test.YtkpfadapgjijgabDoorSC
import Derived.Test.YtkpfadapgjijgabDoorShelf
namespace Go.Proofs.YtkpfadapgjijgabDoor
open Go.RowKit

def argsP (k : Int) : Int := if k = 4 then 1 else if k = 5 ∨ k = 6 then 2 else 0
set_option maxHeartbeats 400000 in
theorem argsOf_any (k : Int) (w : World) : Calls Tryd.prog 22 #[.int .i64 k] w fun e w' => e = .returned (.int .i64 (argsP k)) ∧ w' = w := by
  unfold argsP
  go_enter Tryd.func22, Tryd.ntmps22
  go_wp2
  all_goals go_ret
  all_goals simp_all

set_option maxHeartbeats 1000000 in
theorem number_any (k n r : Int) (os az : Value) (w : World) (h : (k = 0 ∧ 1 ≤ n ∧ n ≤ 1000000000) ∨ (k ≠ 0 ∧ n = 0)) :
    Calls Tryd.prog 23 #[.agg #[.int .i64 k, .int .i64 n, .int .i64 r, os, az]] w fun e w' => e = .returned (.bool true) ∧ Hid (Below w.heap.size w w') := by
  rcases h with ⟨rfl, h1, h2⟩ | ⟨h1, rfl⟩
  all_goals
    go_enter Tryd.func23, Tryd.ntmps23
    go_wp2_with fail
    go_ret
    exact ⟨ret_bool (by simp <;> omega), (Below.refl _ _).alloc (Nat.le_refl _) _⟩

set_option maxHeartbeats 1000000 in
theorem nan_any (x : ByteArray) (w : World) : Calls Tryd.prog 36 #[.string x] w fun e w' => e = .returned (.bool false) ∧ w' = w := by
  go_enter Tryd.func36, Tryd.ntmps36
  go_wp2_with fail
  go_ret
  exact ⟨ret_bool (by simp), rfl⟩
set_option maxHeartbeats 1000000 in
theorem less_any (x y : List UInt8) (w : World) : Calls Tryd.prog 33 #[.string ⟨x.toArray⟩, .string ⟨y.toArray⟩] w fun e w' => e = .returned (.bool (decide (x < y))) ∧ w' = w := by
  have hl := bytesLess_eq x y
  go_enter Tryd.func33, Tryd.ntmps33
  go_wp2_with (first | (go_at_call 36; refine (nan_any _ _).mono ?_; rintro e w' ⟨rfl, rfl⟩))
  go_ret
  exact ⟨ret_bool (by simp), rfl⟩
end Go.Proofs.YtkpfadapgjijgabDoor
