/-
  The loop over the tags that were asked about.
-/
import Derived.Test.YtknjbiineihgfaaLk
set_option linter.unusedVariables false
set_option linter.unusedSimpArgs false
namespace Go.Proofs.Ytknjbiineihgfaa
open Go.RowKit

/-- What the loop leaves as it was. -/
structure Fr2 (F : Nat → Value) (a : Act) (jj : Value) : Prop where
  sz : a.tmps.size = 354
  df : a.defers = []
  e37 : a.tmps[37]? = some jj
  k : ∀ i ∈ [0, 3, 4, 5, 6, 7, 8, 9, 10, 26, 28, 29, 33, 34, 36], a.tmps[i]? = some (F i)
end Go.Proofs.Ytknjbiineihgfaa
