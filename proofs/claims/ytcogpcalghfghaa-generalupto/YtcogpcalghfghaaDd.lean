/-
  The document's graph: PutRow, Var, Open, Find.
-/
import Derived.Test.YtcogpcalghfghaaDc
import Derived.Deep.LoopGhost
set_option linter.unusedVariables false
set_option linter.unusedSimpArgs false
namespace Go.Proofs.Ytcogpcalghfghaa
open Go.RowKit

namespace Dg
/-- What lies at a place, if there is one. -/
def at? {α : Type} (l : List α) (i : Int) : Option α := if i < 0 then none else l[i.toNat]?
theorem at_some {α : Type} {l : List α} {i : Int} {x : α} (h : at? l i = some x) : ∃ n : Nat, i = (n : Int) ∧ l[n]? = some x := by
  unfold at? at h
  split at h
  · cases h
  · exact ⟨i.toNat, by omega, h⟩
/-- The node that a node stands for. -/
def find : Nat → List Int → Int → Option Int
  | 0, _, _ => none
  | f + 1, l, n => (at? l n).bind fun x => if 0 ≤ x then find f l x else some n
end Dg
end Go.Proofs.Ytcogpcalghfghaa
