/-
  Maps of numbers in memory: looking up, writing.
  The document's round, Round.
  The document's parts.
-/
import Derived.Test.YtcogpcalghfghaaDk
import Derived.Laws.MakeOwn
set_option linter.unusedVariables false
set_option linter.unusedSimpArgs false
namespace Go.Proofs.Ytcogpcalghfghaa
open Go.RowKit

namespace Dg
/-- A key's value is written. -/
def mput (k v : Int) : List (Int × Int) → List (Int × Int)
  | [] => [(k, v)]
  | p :: r => if k = p.1 then (k, v) :: r else p :: mput k v r
end Dg
theorem Try.und3 : Try.prog.underlying 3 = some (.int .i64) := by kernel_rfl
theorem ckInt (k : Int) (e : Bool) (w : World) : (Instr.checkKey e 10000 3 (.int .i64 k)).run Try.prog w = .ok () w := by
  unfold Instr.checkKey
  simp only [Sem.run_bind, run_underlying Try.und3, Result.andThen]
  rfl
theorem zero3 (w : World) : (zeroValue 3).run Try.prog w = .ok (.int .i64 0) w := by kernel_rfl
def wput (w : World) (mB : Nat) (o : Obj) : World := { w with heap := w.heap.setIfInBounds mB o }
end Go.Proofs.Ytcogpcalghfghaa

namespace Go.Proofs.Ytcogpcalghfghaa
open Go.RowKit

namespace Dg
def round (f : Nat) : Nat → D → Int → List (Int × Int) → Option (Bool × List (Int × Int))
  | 0, _, _, _ => none
  | k + 1, d, n, s => (find f d.link n).bind fun n =>
    if 0 < (s.lookup n).getD 0 then some (decide ((s.lookup n).getD 0 = 1), s) else
    (at? d.a n).bind fun a => (at? d.b n).bind fun b =>
    (if 0 ≤ a then round f k d a (mput n 1 s) else some (false, mput n 1 s)).bind fun p => if p.1 = true then some (true, p.2) else
    (if 0 ≤ b then round f k d b p.2 else some (false, p.2)).bind fun q => if q.1 = true then some (true, q.2) else some (false, mput n 2 q.2)
end Dg
/-- A block apart of a graph. -/
def Gg.out (G : Gg) (b s : Nat) : Prop := ¬ G.own b s ∧ ∀ (i : Nat) u, (G.xs 5)[i]? = some u → u.ownBlock ≠ some s
end Go.Proofs.Ytcogpcalghfghaa

namespace Go.Proofs.Ytcogpcalghfghaa
open Go.RowKit

namespace Dg
/-- A number of parts as it is told. -/
def fitP (x : Int) : Prop := 0 ≤ x ∧ x ≤ 1000000
instance (x : Int) : Decidable (fitP x) := by unfold fitP; infer_instance
def rowLen (f : Nat) (d : D) (kd : Int) (n : Int) : Option Int := if kd = 6 then (at? d.row n).bind fun r => (whole f d r []).bind fun p => if p.1.length < big then some (p.1.length : Int) else none else some 0
def parts (f : Nat) : Nat → D → Int → List (Int × Int) → Option (Int × List (Int × Int))
  | 0, _, _, _ => none
  | k + 1, d, n, s => (find f d.link n).bind fun n =>
    if 0 < (s.lookup n).getD 0 then some ((s.lookup n).getD 0, s) else
    (at? d.a n).bind fun a => (at? d.b n).bind fun b => (at? d.kind n).bind fun kd =>
    (if 0 ≤ a then parts f k d a s else some (0, s)).bind fun p =>
    (if 0 ≤ b then parts f k d b p.2 else some (0, p.2)).bind fun q =>
    (rowLen f d kd n).bind fun x => if fitP p.1 ∧ fitP q.1 then some (min (1 + p.1 + q.1 + x) 1000000, mput n (min (1 + p.1 + q.1 + x) 1000000) q.2) else none
end Dg
end Go.Proofs.Ytcogpcalghfghaa
