/-
  The document's fun and Check, as plain functions.
-/
import Derived.Test.YtkfjjkpphpakbaaCi
set_option linter.unusedVariables false
set_option linter.unusedSimpArgs false
namespace Go.Proofs.Ytkfjjkpphpakbaa
namespace Cd

/-- Where one goes on from instruction i. -/
def goes (x : Ins) (i : Nat) : List Int := (if x.op = 18 ∨ x.op = 19 then [x.a] else []) ++ (if x.op ≠ 18 ∧ x.op ≠ 17 ∧ x.op ≠ 16 then [(i : Int) + 1] else [])
/-- What is known of how many values lie there. -/
abbrev Kn := Int → Option Int
def Kn.put (K : Kn) (k v : Int) : Kn := fun a => if a = k then some v else K a
def flow1 (i : Nat) (n : Int) : List Int → Kn → Option Kn
  | [], K => some K
  | a :: l, K => match K a with
    | some m => if m = n then flow1 i n l (K.put a n) else none
    | none => if a ≤ i then none else flow1 i n l (K.put a n)
/-- From instruction i on: where the fault is, if there is one; what is known then. -/
def flowL (C : Code) : List Ins → Nat → Kn → Option Nat × Kn
  | [], _, K => (none, K)
  | x :: l, i, K => match K i with
    | none => (some i, K)
    | some n => if (takes C x).1 > n ∨ ((x.op = 17 ∨ x.op = 16) ∧ (takes C x).1 ≠ n) then (some i, K)
      else if n - (takes C x).1 + (takes C x).2 > 4000 then (some i, K)
      else match flow1 i (n - (takes C x).1 + (takes C x).2) (goes x i) K with
        | none => (some i, K)
        | some K' => flowL C l (i + 1) K'
/-- The first instruction whose operands are at fault. -/
def opdL (C : Code) (f : Fun) (first : Bool) : List Ins → Nat → Option (Int × Nat)
  | [], _ => none
  | x :: l, i => if opd C f first x = 0 then opdL C f first l (i + 1) else some (opd C f first x, i)
def funF (C : Code) (f : Fun) (first : Bool) : Int × Nat := match opdL C f first f.ins 0 with
  | some z => z
  | none => match flowL C f.ins 0 (Kn.put (fun _ => none) 0 0) with
    | (some i, _) => (17, i)
    | (none, K) => if (K f.ins.length).isSome then (17, f.ins.length) else (0, 0)
def funsF (C : Code) : List Fun → Bool → Nat → Int × Nat
  | [], _, _ => (0, 0)
  | f :: l, first, k => if (funF C f first).1 = 0 then funsF C l false (k + f.ins.length) else ((funF C f first).1, k + (funF C f first).2)
def hanBad (C : Code) (h : Han) : Bool := h.ops.any (fun x => decide ((C.ops.length : Int) ≤ x)) || !decide h.ops.Nodup
def chk (C : Code) : Int × Nat :=
  if shp C.shape 1 0 ≠ C.shape.length ∨ C.funs = [] ∨ (C.funs.getD 0 ⟨0, 0, []⟩).free ≠ 0 ∨ C.hans.any (hanBad C) = true then (14, 0) else funsF C C.funs true 0
theorem opdL_none {C : Code} {f : Fun} {first : Bool} : ∀ (l : List Ins) (i : Nat), opdL C f first l i = none ↔ ∀ x ∈ l, opd C f first x = 0 := by
  intro l
  induction l with
  | nil => intro i; simp [opdL]
  | cons x l ih =>
    intro i
    unfold opdL
    by_cases h : opd C f first x = 0
    · rw [if_pos h, ih]; simp [h]
    · rw [if_neg h]; simp [h]
end Cd
end Go.Proofs.Ytkfjjkpphpakbaa
