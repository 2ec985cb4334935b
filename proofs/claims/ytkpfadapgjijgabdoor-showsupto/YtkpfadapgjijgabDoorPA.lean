/-
  The document's check of a type: args, proper, Proper.
-/
import Derived.Test.YtkpfadapgjijgabDoorTyM
import Derived.Test.YtkpfadapgjijgabDoorProg
import Derived.Deep.QuietTactic
import Derived.BigQuiet
import Derived.Deep.LoopGhost
import Derived.Lib.Walk
import Derived.WalkSpells
import Derived.WalkLawsBesides
namespace Go.Proofs.YtkpfadapgjijgabDoor
open Go.RowKit

theorem hid {p : Prop} (h : p) : Hid p := h
theorem ret_bool {a b : Bool} (h : a = b) : Ending.returned (.bool a) = .returned (.bool b) := by rw [h]
theorem ret_int {k : IntKind} {a b : Int} (h : a = b) : Ending.returned (.int k a) = .returned (.int k b) := by rw [h]

/-- How many args a kind has. -/
def argsN (k : Int) : Int := if k = 0 ∨ k = 1 ∨ k = 2 ∨ k = 3 then 0 else if k = 4 then 1 else if k = 5 ∨ k = 6 then 2 else -1

set_option maxHeartbeats 400000 in
theorem args_any (k : Int) (w : World) : Calls Tryd.prog 11 #[.int .i64 k] w fun e w' => e = .returned (.int .i64 (argsN k)) ∧ w' = w := by
  unfold argsN
  go_enter Tryd.func11, Tryd.ntmps11
  go_wp2
  all_goals go_ret
  all_goals simp_all
end Go.Proofs.YtkpfadapgjijgabDoor
