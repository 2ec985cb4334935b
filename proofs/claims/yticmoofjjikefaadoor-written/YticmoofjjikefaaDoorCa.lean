/-
  Codes as plain data; the bytes that chapter 11 asks for; when there are some.
-/
import Derived.WalkKit
set_option linter.unusedVariables false
set_option linter.unusedSimpArgs false
namespace Go.Proofs.YticmoofjjikefaaDoor
namespace Cd

structure Op where
  name : List UInt8
  once : Bool
deriving DecidableEq
structure Han where
  shallow : Bool
  ops : List Int
deriving DecidableEq
structure Ins where
  op : Int
  a : Int
  b : Int
  n : Int
deriving DecidableEq
structure Fun where
  free : Int
  slots : Int
  ins : List Ins
deriving DecidableEq
structure Code where
  shape : List UInt8
  ops : List Op
  hans : List Han
  funs : List Fun
deriving DecidableEq

/-- The lowest byte of a number. -/
def low (v : Int) : UInt8 := UInt8.ofNat (v % 256).toNat
/-- A number in so many bytes, the highest first. -/
def big (v : Int) : Nat → List UInt8
  | 0 => []
  | n + 1 => big (v / 256) n ++ [low v]
def flag (b : Bool) : List UInt8 := [if b then 1 else 0]

/-- Which operands an instruction has. -/
def form (op : Int) : Nat :=
  if op = 0 then 8 else if op = 2 ∨ op = 3 ∨ op = 4 ∨ op = 12 ∨ op = 13 ∨ op = 18 ∨ op = 19 ∨ op = 21 ∨ op = 22 then 1 else if op = 14 then 2 else 0

def fits (v most : Int) : Bool := decide (0 ≤ v) && decide (v ≤ most)
def insOk (x : Ins) : Bool :=
  fits x.op 22 && (form x.op == 8 || x.n == 0) && (form x.op == 1 || form x.op == 2 || x.a == 0) && (form x.op == 2 || x.b == 0) && fits x.a 65535 && fits x.b 65535
def insB (x : Ins) : List UInt8 :=
  low x.op :: (if form x.op = 8 then big x.n 8 else if form x.op = 1 then big x.a 2 else if form x.op = 2 then big x.a 2 ++ big x.b 2 else [])
def opOk (o : Op) : Bool := decide (o.name.length ≤ 20)
def opB (o : Op) : List UInt8 := big o.name.length 1 ++ o.name ++ flag o.once
def hanOk (h : Han) : Bool := decide (h.ops.length ≤ 255) && h.ops.all fun v => fits v 255
def hanB (h : Han) : List UInt8 := flag h.shallow ++ big h.ops.length 1 ++ h.ops.map low
def funOk (f : Fun) : Bool := fits f.free 65535 && fits f.slots 65535 && decide (f.ins.length ≤ 65535) && f.ins.all insOk
def funB (f : Fun) : List UInt8 := big f.free 2 ++ big f.slots 2 ++ big f.ins.length 2 ++ f.ins.flatMap insB
def counts (c : Code) : Bool := decide (c.shape.length ≤ 65535) && decide (c.ops.length ≤ 255) && decide (c.hans.length ≤ 65535) && decide (c.funs.length ≤ 65535)
def ok (c : Code) : Bool := counts c && c.ops.all opOk && c.hans.all hanOk && c.funs.all funOk
def head : List UInt8 := [69, 70, 49]
def bytes (c : Code) : List UInt8 :=
  head ++ big c.shape.length 2 ++ c.shape ++ big c.ops.length 1 ++ c.ops.flatMap opB ++ big c.hans.length 2 ++ c.hans.flatMap hanB ++ big c.funs.length 2 ++ c.funs.flatMap funB
/-- What Encode answers. -/
def enc (c : Code) : List UInt8 × Nat := if ok c then (if (bytes c).length ≤ 4000000 then (bytes c, 0) else ([], 1)) else ([], 14)

theorem big_length : ∀ (n : Nat) (v : Int), (big v n).length = n
  | 0, _ => rfl
  | n + 1, v => by simp [big, big_length n]
theorem flag_length (b : Bool) : (flag b).length = 1 := rfl
theorem low_toNat (v : Int) : (low v).toNat = (v % 256).toNat := by
  unfold low
  have h1 : 0 ≤ v % 256 := Int.emod_nonneg _ (by decide)
  have h2 : v % 256 < 256 := Int.emod_lt_of_pos _ (by decide)
  simp [UInt8.toNat_ofNat']
  omega

/-- A number out of bytes, the highest first. -/
def num (l : List UInt8) : Nat := l.foldl (fun v c => v * 256 + c.toNat) 0
theorem num_snoc (l : List UInt8) (c : UInt8) : num (l ++ [c]) = num l * 256 + c.toNat := by simp [num]
theorem emod_shift (v : Int) (n : Nat) : v % (256 ^ (n + 1) : Int) = (v / 256 % 256 ^ n) * 256 + v % 256 := by
  have e : (256 ^ (n + 1) : Int) = 256 * 256 ^ n := by rw [Int.pow_succ, Int.mul_comm]
  rw [e]
  have hm : (0 : Int) < 256 ^ n := Int.pow_pos (by decide)
  generalize (256 ^ n : Int) = m at hm
  have h1 : 0 ≤ v % 256 := Int.emod_nonneg _ (by decide)
  have h2 : v % 256 < 256 := Int.emod_lt_of_pos _ (by decide)
  have h3 : 0 ≤ v / 256 % m := Int.emod_nonneg _ (by omega)
  have h4 : v / 256 % m < m := Int.emod_lt_of_pos _ hm
  have h5 : v / 256 = m * (v / 256 / m) + v / 256 % m := (Int.mul_ediv_add_emod _ _).symm
  have h6 : v = 256 * (v / 256) + v % 256 := (Int.mul_ediv_add_emod _ _).symm
  generalize v / 256 % m = q at *
  generalize v / 256 / m = k at *
  generalize v / 256 = t at *
  generalize v % 256 = r at *
  have h7 : v = (q * 256 + r) + 256 * m * k := by rw [h6, h5, Int.mul_add, Int.mul_assoc]; omega
  rw [h7, Int.add_mul_emod_self_left, Int.emod_eq_of_lt (by omega) (by omega)]
theorem num_big : ∀ (n : Nat) (v : Int), (num (big v n) : Int) = v % (256 ^ n : Int)
  | 0, v => by simp [big, num]
  | n + 1, v => by
    rw [big, num_snoc]
    have ih := num_big n (v / 256)
    have hl := low_toNat v
    have h1 : 0 ≤ v % 256 := Int.emod_nonneg _ (by decide)
    rw [emod_shift v n, ← ih]
    generalize num (big (v / 256) n) = q
    rw [hl, Int.natCast_add, Int.natCast_mul]
    omega
theorem num_big_fits {v : Int} {n : Nat} (h0 : 0 ≤ v) (h1 : v < (256 ^ n : Int)) : (num (big v n) : Int) = v := by
  rw [num_big, Int.emod_eq_of_lt h0 h1]

theorem insB_length (x : Ins) : 1 ≤ (insB x).length ∧ (insB x).length ≤ 9 := by
  unfold insB
  split
  · simp [big_length]
  · split
    · simp [big_length]
    · split <;> simp [big_length]
theorem opB_length (o : Op) : (opB o).length = o.name.length + 2 := by simp [opB, big_length, flag_length]; omega
theorem hanB_length (h : Han) : (hanB h).length = h.ops.length + 2 := by simp [hanB, big_length, flag_length]; omega
theorem flatMap_length_le {α : Type} {f : α → List UInt8} {m : Nat} : ∀ {l : List α}, (∀ x ∈ l, (f x).length ≤ m) → (l.flatMap f).length ≤ l.length * m
  | [], _ => by simp
  | x :: r, h => by
    have h1 := flatMap_length_le (l := r) (fun y hy => h y (by simp [hy]))
    have h2 := h x (by simp)
    simp only [List.flatMap_cons, List.length_append, List.length_cons]
    rw [Nat.add_mul]; omega
theorem funB_length {f : Fun} (h : f.ins.length ≤ 65535) : (funB f).length ≤ 600000 := by
  have := flatMap_length_le (f := insB) (m := 9) (l := f.ins) (fun x _ => (insB_length x).2)
  simp only [funB, List.length_append, big_length]
  omega
end Cd
end Go.Proofs.YticmoofjjikefaaDoor
