/-
  Codes as plain data; the bytes that chapter 11 asks for; when there are some.
  The document's reader of bytes, as plain functions that go on behind a fault as it does.
  Small things of use everywhere; the document's Form.
  A row of bytes that a call makes: out of a string, a string behind it, a byte behind it.
  Codes in memory; the operations append on rows of bytes, for the walk.
-/
import Derived.WalkKit
import Derived.Test.YtpjbfdpblgjmfaaGreatDoorProg
import Derived.WalkSpells
import Derived.BigQuiet
import Derived.WalkSmall
import Derived.Deep.QuietTactic
import Derived.Deep.OwnRows
import Derived.Laws.IdiomStrings
import Derived.Deep.RegionHeld3
import Derived.Deep.Cut
import Derived.Lib.ConvBytes
import Derived.Lib.AppendStr
set_option linter.unusedVariables false
set_option linter.unusedSimpArgs false
namespace Go.Proofs.YtpjbfdpblgjmfaaGreatDoor
namespace Cd

structure Op where
  name : List UInt8
  once : Bool
deriving DecidableEq
structure Han where
  shallow : Bool
  ops : List Int
deriving DecidableEq
structure Ins where
  op : Int
  a : Int
  b : Int
  n : Int
deriving DecidableEq
structure Fun where
  free : Int
  slots : Int
  ins : List Ins
deriving DecidableEq
structure Code where
  shape : List UInt8
  ops : List Op
  hans : List Han
  funs : List Fun
deriving DecidableEq

/-- The lowest byte of a number. -/
def low (v : Int) : UInt8 := UInt8.ofNat (v % 256).toNat
/-- A number in so many bytes, the highest first. -/
def big (v : Int) : Nat → List UInt8
  | 0 => []
  | n + 1 => big (v / 256) n ++ [low v]
def flag (b : Bool) : List UInt8 := [if b then 1 else 0]

/-- Which operands an instruction has. -/
def form (op : Int) : Nat :=
  if op = 0 then 8 else if op = 2 ∨ op = 3 ∨ op = 4 ∨ op = 12 ∨ op = 13 ∨ op = 18 ∨ op = 19 ∨ op = 21 ∨ op = 22 then 1 else if op = 14 then 2 else 0

def fits (v most : Int) : Bool := decide (0 ≤ v) && decide (v ≤ most)
def insOk (x : Ins) : Bool :=
  fits x.op 22 && (form x.op == 8 || x.n == 0) && (form x.op == 1 || form x.op == 2 || x.a == 0) && (form x.op == 2 || x.b == 0) && fits x.a 65535 && fits x.b 65535
def insB (x : Ins) : List UInt8 :=
  low x.op :: (if form x.op = 8 then big x.n 8 else if form x.op = 1 then big x.a 2 else if form x.op = 2 then big x.a 2 ++ big x.b 2 else [])
def opOk (o : Op) : Bool := decide (o.name.length ≤ 20)
def opB (o : Op) : List UInt8 := big o.name.length 1 ++ o.name ++ flag o.once
def hanOk (h : Han) : Bool := decide (h.ops.length ≤ 255) && h.ops.all fun v => fits v 255
def hanB (h : Han) : List UInt8 := flag h.shallow ++ big h.ops.length 1 ++ h.ops.map low
def funOk (f : Fun) : Bool := fits f.free 65535 && fits f.slots 65535 && decide (f.ins.length ≤ 65535) && f.ins.all insOk
def funB (f : Fun) : List UInt8 := big f.free 2 ++ big f.slots 2 ++ big f.ins.length 2 ++ f.ins.flatMap insB
def counts (c : Code) : Bool := decide (c.shape.length ≤ 65535) && decide (c.ops.length ≤ 255) && decide (c.hans.length ≤ 65535) && decide (c.funs.length ≤ 65535)
def ok (c : Code) : Bool := counts c && c.ops.all opOk && c.hans.all hanOk && c.funs.all funOk
def head : List UInt8 := [69, 70, 49]
def bytes (c : Code) : List UInt8 :=
  head ++ big c.shape.length 2 ++ c.shape ++ big c.ops.length 1 ++ c.ops.flatMap opB ++ big c.hans.length 2 ++ c.hans.flatMap hanB ++ big c.funs.length 2 ++ c.funs.flatMap funB
/-- What Encode answers. -/
def enc (c : Code) : List UInt8 × Nat := if ok c then (if (bytes c).length ≤ 4000000 then (bytes c, 0) else ([], 1)) else ([], 14)

theorem big_length : ∀ (n : Nat) (v : Int), (big v n).length = n
  | 0, _ => rfl
  | n + 1, v => by simp [big, big_length n]
theorem flag_length (b : Bool) : (flag b).length = 1 := rfl
theorem low_toNat (v : Int) : (low v).toNat = (v % 256).toNat := by
  unfold low
  have h1 : 0 ≤ v % 256 := Int.emod_nonneg _ (by decide)
  have h2 : v % 256 < 256 := Int.emod_lt_of_pos _ (by decide)
  simp [UInt8.toNat_ofNat']
  omega

/-- A number out of bytes, the highest first. -/
def num (l : List UInt8) : Nat := l.foldl (fun v c => v * 256 + c.toNat) 0
theorem num_snoc (l : List UInt8) (c : UInt8) : num (l ++ [c]) = num l * 256 + c.toNat := by simp [num]
theorem emod_shift (v : Int) (n : Nat) : v % (256 ^ (n + 1) : Int) = (v / 256 % 256 ^ n) * 256 + v % 256 := by
  have e : (256 ^ (n + 1) : Int) = 256 * 256 ^ n := by rw [Int.pow_succ, Int.mul_comm]
  rw [e]
  have hm : (0 : Int) < 256 ^ n := Int.pow_pos (by decide)
  generalize (256 ^ n : Int) = m at hm
  have h1 : 0 ≤ v % 256 := Int.emod_nonneg _ (by decide)
  have h2 : v % 256 < 256 := Int.emod_lt_of_pos _ (by decide)
  have h3 : 0 ≤ v / 256 % m := Int.emod_nonneg _ (by omega)
  have h4 : v / 256 % m < m := Int.emod_lt_of_pos _ hm
  have h5 : v / 256 = m * (v / 256 / m) + v / 256 % m := (Int.mul_ediv_add_emod _ _).symm
  have h6 : v = 256 * (v / 256) + v % 256 := (Int.mul_ediv_add_emod _ _).symm
  generalize v / 256 % m = q at *
  generalize v / 256 / m = k at *
  generalize v / 256 = t at *
  generalize v % 256 = r at *
  have h7 : v = (q * 256 + r) + 256 * m * k := by rw [h6, h5, Int.mul_add, Int.mul_assoc]; omega
  rw [h7, Int.add_mul_emod_self_left, Int.emod_eq_of_lt (by omega) (by omega)]
theorem num_big : ∀ (n : Nat) (v : Int), (num (big v n) : Int) = v % (256 ^ n : Int)
  | 0, v => by simp [big, num]
  | n + 1, v => by
    rw [big, num_snoc]
    have ih := num_big n (v / 256)
    have hl := low_toNat v
    have h1 : 0 ≤ v % 256 := Int.emod_nonneg _ (by decide)
    rw [emod_shift v n, ← ih]
    generalize num (big (v / 256) n) = q
    rw [hl, Int.natCast_add, Int.natCast_mul]
    omega
theorem num_big_fits {v : Int} {n : Nat} (h0 : 0 ≤ v) (h1 : v < (256 ^ n : Int)) : (num (big v n) : Int) = v := by
  rw [num_big, Int.emod_eq_of_lt h0 h1]

theorem insB_length (x : Ins) : 1 ≤ (insB x).length ∧ (insB x).length ≤ 9 := by
  unfold insB
  split
  · simp [big_length]
  · split
    · simp [big_length]
    · split <;> simp [big_length]
theorem opB_length (o : Op) : (opB o).length = o.name.length + 2 := by simp [opB, big_length, flag_length]; omega
theorem hanB_length (h : Han) : (hanB h).length = h.ops.length + 2 := by simp [hanB, big_length, flag_length]; omega
theorem flatMap_length_le {α : Type} {f : α → List UInt8} {m : Nat} : ∀ {l : List α}, (∀ x ∈ l, (f x).length ≤ m) → (l.flatMap f).length ≤ l.length * m
  | [], _ => by simp
  | x :: r, h => by
    have h1 := flatMap_length_le (l := r) (fun y hy => h y (by simp [hy]))
    have h2 := h x (by simp)
    simp only [List.flatMap_cons, List.length_append, List.length_cons]
    rw [Nat.add_mul]; omega
theorem funB_length {f : Fun} (h : f.ins.length ≤ 65535) : (funB f).length ≤ 600000 := by
  have := flatMap_length_le (f := insB) (m := 9) (l := f.ins) (fun x _ => (insB_length x).2)
  simp only [funB, List.length_append, big_length]
  omega
end Cd
end Go.Proofs.YtpjbfdpblgjmfaaGreatDoor

namespace Go.Proofs.YtpjbfdpblgjmfaaGreatDoor
namespace Cd

/-- Where it is, and the first fault: its kind and its place. -/
structure Rd where
  pos : Nat
  fk : Nat
  fa : Nat
deriving DecidableEq
def Rd.no (r : Rd) (k a : Nat) : Rd := if r.fk = 0 then ⟨r.pos, k, a⟩ else r
def Rd.has (s : List UInt8) (n : Nat) (r : Rd) : Prop := r.fk = 0 ∧ r.pos + n ≤ s.length
instance (s : List UInt8) (n : Nat) (r : Rd) : Decidable (r.has s n) := by unfold Rd.has; exact inferInstance
def Rd.num (s : List UInt8) (n : Nat) (r : Rd) : Nat × Rd := if r.has s n then (Cd.num ((s.drop r.pos).take n), ⟨r.pos + n, r.fk, r.fa⟩) else (0, r.no 13 s.length)
def Rd.text (s : List UInt8) (n : Nat) (r : Rd) : List UInt8 × Rd := if r.has s n then ((s.drop r.pos).take n, ⟨r.pos + n, r.fk, r.fa⟩) else ([], r.no 13 s.length)
def Rd.flag (s : List UInt8) (r : Rd) : Bool × Rd := ((r.num s 1).1 == 1, if 1 < (r.num s 1).1 then (r.num s 1).2.no 14 ((r.num s 1).2.pos - 1) else (r.num s 1).2)
/-- A number of 64 bits, two's complement. -/
def sgn (v : Nat) : Int := if v < 9223372036854775808 then v else v - 18446744073709551616
def Rd.ins (s : List UInt8) (r : Rd) : Ins × Rd :=
  let a := r.num s 1
  if a.2.fk = 0 ∧ 23 ≤ a.1 then (⟨0, 0, 0, 0⟩, a.2.no 15 (a.2.pos - 1))
  else if form a.1 = 8 then (⟨a.1, 0, 0, sgn (a.2.num s 8).1⟩, (a.2.num s 8).2)
  else if form a.1 = 1 then (⟨a.1, (a.2.num s 2).1, 0, 0⟩, (a.2.num s 2).2)
  else if form a.1 = 2 then (⟨a.1, (a.2.num s 2).1, ((a.2.num s 2).2.num s 2).1, 0⟩, ((a.2.num s 2).2.num s 2).2)
  else (⟨a.1, 0, 0, 0⟩, a.2)

theorem fold_lt : ∀ (l : List UInt8) (v : Nat), l.foldl (fun v c => v * 256 + c.toNat) v < (v + 1) * 256 ^ l.length
  | [], v => by simp
  | c :: l, v => by
    have h := fold_lt l (v * 256 + c.toNat)
    have hc := c.toNat_lt
    simp only [List.foldl_cons, List.length_cons]
    refine Nat.lt_of_lt_of_le h ?_
    rw [Nat.pow_succ, Nat.mul_comm (256 ^ l.length) 256, ← Nat.mul_assoc]
    exact Nat.mul_le_mul_right _ (by omega)
theorem num_lt (l : List UInt8) : num l < 256 ^ l.length := by
  have := fold_lt l 0
  unfold num
  omega
theorem sgn_small {v : Nat} (h : v < 9223372036854775808) : sgn v = v := by simp [sgn, h]
theorem num_one_lt (s : List UInt8) (r : Rd) : (r.num s 1).1 < 256 := by
  unfold Rd.num
  split
  · have := num_lt ((s.drop r.pos).take 1)
    have h2 : ((s.drop r.pos).take 1).length ≤ 1 := by simp; omega
    have h3 : 256 ^ ((s.drop r.pos).take 1).length ≤ 256 ^ 1 := Nat.pow_le_pow_right (by decide) h2
    omega
  · simp
theorem num_two_lt (s : List UInt8) (r : Rd) : (r.num s 2).1 < 65536 := by
  unfold Rd.num
  split
  · have := num_lt ((s.drop r.pos).take 2)
    have h2 : ((s.drop r.pos).take 2).length ≤ 2 := by simp; omega
    have h3 : 256 ^ ((s.drop r.pos).take 2).length ≤ 256 ^ 2 := Nat.pow_le_pow_right (by decide) h2
    omega
  · simp
end Cd
end Go.Proofs.YtpjbfdpblgjmfaaGreatDoor

namespace Go.Proofs.YtpjbfdpblgjmfaaGreatDoor
open Go.RowKit

theorem ret_bool {a b : Bool} (h : a = b) : Ending.returned (.bool a) = .returned (.bool b) := by rw [h]
theorem ret_int {k : IntKind} {a b : Int} (h : a = b) : Ending.returned (.int k a) = .returned (.int k b) := by rw [h]
theorem hid {p : Prop} (h : p) : Hid p := h

set_option maxHeartbeats 2000000 in
theorem form_any (op : Int) (w : World) :
    Calls Tryz.prog 69 #[.int .i64 op] w fun e w' => e = .returned (.int .i64 (Cd.form op : Nat)) ∧ w' = w := by
  go_enter Tryz.func69, Tryz.ntmps69
  go_wp2
  all_goals
    go_ret
    refine ⟨ret_int ?_, rfl⟩
    unfold Cd.form
    simp_all

theorem i64_and255 (n : Int) : bits .and .i64 n 255 = n % 256 := by
  have h255 : (BitVec.ofInt 64 255).toNat = 2 ^ 8 - 1 := by decide
  have key : (BitVec.ofInt 64 n &&& BitVec.ofInt 64 255).toNat = (n % ((2 ^ 64 : Nat) : Int)).toNat % 2 ^ 8 := by
    rw [BitVec.toNat_and, BitVec.toNat_ofInt, h255, Nat.and_two_pow_sub_one_eq_mod]
  show IntKind.i64.wrap ((BitVec.ofInt 64 n &&& BitVec.ofInt 64 255).toNat : Nat) = n % 256
  rw [key, IntKind.wrap_i64]
  omega
theorem Tryz.info5 : (Tryz.prog.info? 5).map (fun i => (i.zero, i.size, i.bytes)) = some (some (.int .u8 0), 1, 1) := by kernel_rfl
theorem low_int (v : Int) : ((Cd.low v).toNat : Int) = v % 256 := by
  rw [Cd.low_toNat]
  have h1 : 0 ≤ v % 256 := Int.emod_nonneg _ (by decide)
  omega

def insV (x : Cd.Ins) : Value := .agg #[.int .i64 x.op, .int .i64 x.a, .int .i64 x.b, .int .i64 x.n]
theorem bcell {B : Nat} {W w1 : World} (hb : Below B W w1) : (∀ b o, b < B → w1.cell? ⟨b, o, none⟩ = W.cell? ⟨b, o, none⟩) ∧ (∀ b o, b < B → w1.frozen? ⟨b, o, none⟩ = W.frozen? ⟨b, o, none⟩) :=
  ⟨fun b o h => hb.cell (p := ⟨b, o, none⟩) h, fun b o h => hb.frozen (p := ⟨b, o, none⟩) h⟩

theorem below_two {w w2 : World} {o1 o2 : Obj} (hb : Below ((w.alloc o1).alloc o2).heap.size ((w.alloc o1).alloc o2) w2) : Below w.heap.size w w2 :=
  (((Below.refl _ _).alloc (Nat.le_refl _) _).alloc (by simp) _).trans (hb.mono (by simp; omega))
theorem size_mk (l : List UInt8) : (ByteArray.mk l.toArray).size = l.length := by simp [ByteArray.size]
theorem size_mk' (l : Array UInt8) : (ByteArray.mk l).size = l.size := rfl
theorem past_cells {B : Nat} {W w' : World} (hb : Below B W w') {b o : Nat} {v : Value} (h : b < B) (hc : W.cell? ⟨b, o, none⟩ = some v) : w'.cell? ⟨b, o, none⟩ = some v := (hb.cell (p := ⟨b, o, none⟩) h).trans hc
theorem grown_set {w w' : World} {b i : Nat} (h : w.grownBy w' (some b)) (v : Value) : w.grownBy (w'.setCell ⟨b, i, none⟩ v) (some b) := by
  refine ⟨h.os, h.tape, h.output, by simpa using h.size, fun k hk hne => ?_⟩
  have hk2 : k ≠ b := fun e => hne (by rw [e])
  rw [← h.block k hk hne]
  exact Go.Deep.blk_setCell_other _ _ _ _ hk2
theorem grown_refl (w : World) (o : Option Nat) : w.grownBy w o := ⟨rfl, rfl, rfl, Nat.le_refl _, fun _ _ _ => rfl⟩
theorem grown_drew {w w' : World} {o : Option Nat} (h : w.grownBy w' o) : w.grownBy w'.drew o := ⟨h.os, h.tape, h.output, h.size, h.block⟩
theorem grown_trans {w w1 w2 : World} {o : Option Nat} (h : w.grownBy w1 o) (k : w1.grownBy w2 o) : w.grownBy w2 o :=
  ⟨k.os.trans h.os, k.tape.trans h.tape, k.output.trans h.output, Nat.le_trans h.size k.size, fun i hi hne => (k.block i (Nat.lt_of_lt_of_le hi h.size) hne).trans (h.block i hi hne)⟩

def ptrV (b : Nat) : Value := .pointer (some ⟨b, 0, none⟩)

theorem grown_cell {w w' : World} {b : Nat} (h : w.grownBy w' (some b)) {k o : Nat} {v : Value} (hk : k ≠ b) (hc : w.cell? ⟨k, o, none⟩ = some v) : w'.cell? ⟨k, o, none⟩ = some v := h.cell hc (by simpa using hk)
theorem grown_frozen {w w' : World} {b : Nat} (h : w.grownBy w' (some b)) {k o : Nat} (hk : k ≠ b) (hl : k < w.heap.size) : w'.frozen? ⟨k, o, none⟩ = w.frozen? ⟨k, o, none⟩ := World.frozen?_of_block (a := ⟨k, o, none⟩) (h.block k hl (by simpa using hk))
theorem grown_alloc {w w' : World} {o : Option Nat} (h : w.grownBy w' o) (x : Obj) : w.grownBy (w'.alloc x) o :=
  ⟨h.os, h.tape, h.output, by have := h.size; simp; omega, fun k hk hne => by
    rw [← h.block k hk hne]
    exact Go.Deep.blk_alloc_lt _ _ _ (Nat.lt_of_lt_of_le hk h.size)⟩
end Go.Proofs.YtpjbfdpblgjmfaaGreatDoor

namespace Go.Proofs.YtpjbfdpblgjmfaaGreatDoor
open Go.RowKit Go.Lib

def cellsOf (l : List UInt8) : List Value := l.map fun c => .int .u8 (c.toNat : Int)
theorem cellsOf_length (l : List UInt8) : (cellsOf l).length = l.length := by simp [cellsOf]
theorem cellsOf_append (l k : List UInt8) : cellsOf (l ++ k) = cellsOf l ++ cellsOf k := by simp [cellsOf]
theorem strCells_of (s : ByteArray) : strCells s = cellsOf s.data.toList := by simp [strCells, cellsOf]

/-- The value is a slice of these bytes, in a block from B on; of its cells none is frozen. -/
def ByRow (w : World) (B : Nat) (v : Value) (l : List UInt8) : Prop :=
  ∃ g cap cur fz, v = .slice (some ⟨g, 0, none⟩) l.length cap ∧ B ≤ g ∧ w.heap[g]? = some (.cells cur 5 fz) ∧ (cap ≤ fz.1 ∨ fz.2 = 0) ∧ l.length ≤ cap ∧ cap ≤ maxLen ∧ cur.size = cap ∧ cur.toList.take l.length = cellsOf l

theorem ByRow.keep {w w' : World} {B : Nat} {v : Value} {l : List UInt8} (h : ByRow w B v l) (hb : Below w.heap.size w w') : ByRow w' B v l := by
  obtain ⟨g, cap, cur, fz, h1, h2, h3, h4⟩ := h
  exact ⟨g, cap, cur, fz, h1, h2, (hb.block g (Array.getElem?_eq_some_iff.1 h3).1).trans h3, h4⟩
theorem ByRow.mono {w : World} {B B' : Nat} {v : Value} {l : List UInt8} (h : ByRow w B v l) (hb : B' ≤ B) : ByRow w B' v l := by
  obtain ⟨g, cap, cur, fz, h1, h2, h3⟩ := h
  exact ⟨g, cap, cur, fz, h1, Nat.le_trans hb h2, h3⟩
theorem ByRow.cell {w : World} {B : Nat} {v : Value} {l : List UInt8} (h : ByRow w B v l) : ∃ g cap, v = .slice (some ⟨g, 0, none⟩) l.length cap ∧ ∀ j (hj : j < l.length), w.cell? ⟨g, j, none⟩ = some (.int .u8 (l[j].toNat : Int)) := by
  obtain ⟨g, cap, cur, fz, h1, h2, h3, h4, h5, h6, h7, h8⟩ := h
  refine ⟨g, cap, h1, fun j hj => ?_⟩
  have e : cur[j]? = some (.int .u8 (l[j].toNat : Int)) := by
    have e2 := congrArg (fun x => x[j]?) h8
    simp only [List.getElem?_take, if_pos hj, cellsOf, List.getElem?_map, List.getElem?_eq_getElem hj, Option.map_some] at e2
    simpa using e2
  simp [World.cell?, h3, e]

/-- Cells behind one another, into a row of which none of the cells is frozen. -/
theorem store_cells (P : Program) (g o : Nat) (t : TypeId) (fz : Nat × Nat) : ∀ (vs : List Value) (i : Nat) (cur : Array Value) (w : World), w.heap[g]? = some (.cells cur t fz) → (cur.size ≤ fz.1 ∨ fz.2 = 0) → o + i + vs.length ≤ cur.size → (∀ v ∈ vs, v.oneCell' = true) →
    ∃ w', (storeCells ⟨g, o, none⟩ vs i).run P w = .ok () w' ∧ w'.heap[g]? = some (.cells (cur.toList.take (o + i) ++ vs ++ cur.toList.drop (o + i + vs.length)).toArray t fz) ∧ w.grownBy w' (some g) := by
  intro vs
  induction vs with
  | nil =>
    intro i cur w hg _ _ _
    exact ⟨w, rfl, by simpa using hg, rfl, rfl, rfl, Nat.le_refl _, fun _ _ _ => rfl⟩
  | cons v r ih =>
    intro i cur w hg hfz hl h1
    simp only [List.length_cons] at hl
    have hi : o + i < cur.size := by omega
    have hadd : (⟨g, o, none⟩ : Addr).add i = ⟨g, o + i, none⟩ := by simp [Addr.add]
    have hcell : w.cell? ⟨g, o + i, none⟩ = some cur[o + i] := by simp [World.cell?, hg, hi]
    have hfro : w.frozen? ⟨g, o + i, none⟩ = false := by
      obtain ⟨lo, up⟩ := fz
      simp only [World.frozen?, hg, Bool.and_eq_false_iff, decide_eq_false_iff_not]
      simp only at hfz
      omega
    have hst : (store ((⟨g, o, none⟩ : Addr).add i) v).run P w = .ok () (w.setRow g (cur.setIfInBounds (o + i) v)) := by
      rw [hadd, run_store P w _ v _ (h1 v (by simp)), hcell]
      simp [hfro, setCell_eq_setRow w g (o + i) cur t fz v hg]
    obtain ⟨w', e1, e2, e3⟩ := ih (i + 1) (cur.setIfInBounds (o + i) v) _ (setRow_heap w g cur (cur.setIfInBounds (o + i) v) t fz hg) (by simpa using hfz) (by simp; omega) (fun x hx => h1 x (by simp [hx]))
    refine ⟨w', ?_, ?_, ?_⟩
    · simp only [storeCells, Sem.run_bind, hst, Result.andThen_ok, e1]
    · rw [e2]
      congr 3
      have hs := list_seg_step cur.toList (o + i) v r (by simp; omega)
      simpa [Array.toList_setIfInBounds, Nat.add_assoc] using hs
    · refine ⟨e3.os, e3.tape, e3.output, ?_, fun k hk hne => ?_⟩
      · have := e3.size
        simpa using this
      · have hne2 : k ≠ g := fun e => hne (by rw [e])
        rw [e3.block k (by simpa using hk) hne]
        exact setRow_other w g k _ hne2

theorem Tryz.infoU8 : ∃ i, Tryz.prog.info? 5 = some i ∧ i.zero = some (.int .u8 0) ∧ i.size = 1 ∧ i.bytes = 1 := by
  obtain ⟨i, h1, h2⟩ := Option.map_eq_some_iff.1 Tryz.info5
  simp only [Prod.mk.injEq] at h2
  exact ⟨i, h1, h2.1, h2.2.1, h2.2.2⟩


theorem ByRow.lt {w : World} {B : Nat} {v : Value} {l : List UInt8} (h : ByRow w B v l) : ∃ g, v.ownBlock = some g ∧ B ≤ g ∧ g < w.heap.size := by
  obtain ⟨g, cap, cur, fz, rfl, h2, h3, _⟩ := h
  exact ⟨g, rfl, h2, (Array.getElem?_eq_some_iff.1 h3).1⟩
theorem ByRow.ne {w : World} {B : Nat} {v : Value} {l : List UInt8} (h : ByRow w B v l) {k : Nat} (hk : w.heap.size ≤ k ∨ k < B) : some k ≠ v.ownBlock := by
  obtain ⟨g, e, h1, h2⟩ := h.lt
  rw [e]
  simp
  omega
theorem ByRow.below {w w' : World} {B : Nat} {v : Value} {l : List UInt8} (h : ByRow w B v l) (hB : B ≤ w.heap.size) (hg : w.grownBy w' v.ownBlock) : Below B w w' :=
  ⟨hg.os, hg.tape, hg.output, hg.size, fun k hk => hg.block k (by omega) (h.ne (.inr hk))⟩

/-- '[]byte(s)'. -/
theorem bytes_of (w : World) (s : ByteArray) (hs : s.size ≤ maxLen) : ∃ v w', (convert 9 235 (.string s)).run Tryz.prog w = .ok v w' ∧ ByRow w' w.heap.size v s.data.toList ∧ Below w.heap.size w w' := by
  refine ⟨_, _, Lib.run_convert_string_bytes w 9 235 5 s Tryz.underlying9 Tryz.underlying235 Tryz.underlying5, ?_, ?_⟩
  · refine ⟨w.heap.size, _, _, _, by rw [show s.data.toList.length = s.size from rfl], Nat.le_refl _, bytesWorld_at_new w 5 s, .inl ?_, ?_, grownCap_le_maxLen w _ _ _ hs, ?_, ?_⟩
    · have := grownCap_ge w s.size 0 5
      simp [bytesCells]
      omega
    · exact grownCap_ge w s.size 0 5
    · have := grownCap_ge w s.size 0 5
      simp [bytesCells]
      omega
    · simp only [bytesCells, Array.toList_append, Array.toList_map]
      rw [List.take_append_of_le_length (by simp), List.take_of_length_le (by simp)]
      rfl
  · exact ⟨by simp [bytesWorld, World.freeze, World.alloc, World.drew, -World.alloc_eq, -World.drew_eq], by simp [bytesWorld, World.freeze, World.alloc, World.drew, -World.alloc_eq, -World.drew_eq],
      by simp [bytesWorld, World.freeze, World.alloc, World.drew, -World.alloc_eq, -World.drew_eq], by rw [bytesWorld_size]; omega, fun k hk => bytesWorld_at_old w 5 s k hk⟩

theorem take_seg {α : Type} (a b c : List α) (n : Nat) (h : (a ++ b).length = n) : (a ++ b ++ c).take n = a ++ b := by
  rw [← h]; exact List.take_left

/-- 'append(b, s...)'. -/
theorem bytes_str (w : World) (B : Nat) (v : Value) (l : List UInt8) (ty : TypeId) (s : ByteArray) (h : ByRow w B v l) (hB : B ≤ w.heap.size) (hs : l.length + s.size ≤ 140737488355328) :
    ∃ v' w', (Builtin.append_ #[235, 9] ty #[v, .string s]).run Tryz.prog w = .ok v' w' ∧ ByRow w' B v' (l ++ s.data.toList) ∧ w.grownBy w' v.ownBlock ∧ (v'.ownBlock = v.ownBlock ∨ v'.ownBlock = some w.heap.size) := by
  obtain ⟨i, hi, hz, h1, h2⟩ := Tryz.infoU8
  have hc := h.cell
  obtain ⟨g, cap, cur, fz, rfl, hg, hh, hfz, hlc, hcm, hcs, htk⟩ := h
  have e0 : (l ++ s.data.toList).length = l.length + s.size := by simp
  by_cases hroom : l.length + s.size ≤ cap
  · have hf := run_firstCells_string (P := Tryz.prog) w 1 s
    obtain ⟨w', e1, e2, e3⟩ := store_cells Tryz.prog g l.length 5 fz (strCells s) 0 cur w hh (by omega) (by rw [strCells_length]; omega) (strCells_oneCell s)
    refine ⟨.slice (some ⟨g, 0, none⟩) (l.length + s.size) cap, w', ?_, ?_, e3, .inl rfl⟩
    · simp [Builtin.append_, run_underlying Tryz.underlying235, run_underlying Tryz.underlying9, sizeOf, typeInfo, hi, h1, Builtin.lenOf, hroom, hf, Addr.add_lit, e1]
    · refine ⟨g, cap, _, fz, by rw [e0], hg, e2, hfz, by omega, hcm, ?_, ?_⟩
      · simp [strCells_length]; omega
      · simp only [Nat.add_zero, htk]
        rw [e0, cellsOf_append, ← strCells_of]
        exact take_seg _ _ _ _ (by simp [cellsOf_length, strCells_length])
  · obtain ⟨g', cap', hv, hcell⟩ := hc
    simp only [Value.slice.injEq, Option.some.injEq, Addr.mk.injEq, and_true, true_and] at hv
    obtain ⟨rfl, rfl⟩ := hv
    have hr := run_append_grow_string (P := Tryz.prog) w 235 9 ty 5 i (.int .u8 0) Tryz.underlying235 Tryz.underlying9 hi hz ⟨g, 0, none⟩ l.length cap (cellsOf l) (by rw [h1]; simp [cellsOf_length]) (fun j u hu => by
      have hj : j < l.length := by
        have := (List.getElem?_eq_some_iff.1 hu).1
        simpa [cellsOf_length] using this
      rw [show (⟨g, 0, none⟩ : Addr).add j = ⟨g, j, none⟩ by simp [Addr.add]; omega, hcell j hj, ← hu]
      simp [cellsOf, hj]) s (by omega) (by omega) (by rw [h2]; exact growslice_fits (by omega) (by omega))
    have hge := grownCap_ge w (l.length + s.size) cap 5
    have hm : grownCap w (l.length + s.size) cap 5 ≤ maxLen := grownCap_le_maxLen w _ _ _ (by simp only [maxLen]; omega)
    refine ⟨_, _, hr, ⟨w.heap.size, _, _, (0, 0), by rw [e0], hB, heap_alloc_new w.drew _, .inr rfl, by omega, hm, ?_, ?_⟩, ⟨rfl, rfl, rfl, by simp, fun k hk _ => heap_alloc_old w.drew _ (by simpa using hk)⟩, .inr rfl⟩
    · have hz1 : (Value.int IntKind.u8 0).cells.size = 1 := rfl
      simp only [Array.size_append, List.size_toArray, size_zeroCells, hz1, cellsOf_length, strCells_length]
      omega
    · simp only [Array.toList_append]
      rw [e0, cellsOf_append, ← strCells_of]
      exact take_seg _ _ _ _ (by simp [cellsOf_length, strCells_length])

/-- 'append(b, c)': the byte lies in a block of its own. -/
theorem bytes_one (w : World) (B : Nat) (v : Value) (l : List UInt8) (ty : TypeId) (a : Addr) (c : UInt8) (cp : Nat) (ha : w.cell? a = some (.int .u8 (c.toNat : Int))) (h : ByRow w B v l) (hB : B ≤ w.heap.size) (hs : l.length + 1 ≤ 140737488355328) :
    ∃ v' w', (Builtin.append_ #[235, 235] ty #[v, .slice (some a) 1 cp]).run Tryz.prog w = .ok v' w' ∧ ByRow w' B v' (l ++ [c]) ∧ w.grownBy w' v.ownBlock ∧ (v'.ownBlock = v.ownBlock ∨ v'.ownBlock = some w.heap.size) := by
  obtain ⟨i, hi, hz, h1, h2⟩ := Tryz.infoU8
  have hc := h.cell
  obtain ⟨g, cap, cur, fz, rfl, hg, hh, hfz, hlc, hcm, hcs, htk⟩ := h
  have e0 : (l ++ [c]).length = l.length + 1 := by simp
  have hnews : ∀ j u, [Value.int .u8 (c.toNat : Int)][j]? = some u → w.cell? (a.add j) = some u := by
    intro j u hu
    match j, hu with
    | 0, hu =>
      simp only [List.getElem?_cons_zero, Option.some.injEq] at hu
      rw [← hu, ← ha]
      congr 1
  have hone : ∀ u ∈ [Value.int .u8 (c.toNat : Int)], u.oneCell' = true := by
    intro u hu
    simp only [List.mem_singleton] at hu
    subst hu
    rfl
  by_cases hroom : l.length + 1 ≤ cap
  · have hf := run_firstCells_some (P := Tryz.prog) w i.size 1 a 1 cp [Value.int .u8 (c.toNat : Int)] (by rw [h1]; rfl) hnews
    obtain ⟨w', e1, e2, e3⟩ := store_cells Tryz.prog g l.length 5 fz [Value.int .u8 (c.toNat : Int)] 0 cur w hh (by omega) (by simp; omega) hone
    refine ⟨.slice (some ⟨g, 0, none⟩) (l.length + 1) cap, w', ?_, ?_, e3, .inl rfl⟩
    · rw [h1] at hf
      simp [Builtin.append_, run_underlying Tryz.underlying235, sizeOf, typeInfo, hi, h1, Builtin.lenOf, hroom, hf, Addr.add_lit, e1]
    · refine ⟨g, cap, _, fz, by rw [e0], hg, e2, hfz, by omega, hcm, ?_, ?_⟩
      · simp; omega
      · simp only [Nat.add_zero, htk]
        rw [e0, cellsOf_append]
        exact take_seg _ _ _ _ (by simp [cellsOf_length])
  · obtain ⟨g', cap', hv, hcell⟩ := hc
    simp only [Value.slice.injEq, Option.some.injEq, Addr.mk.injEq, and_true, true_and] at hv
    obtain ⟨rfl, rfl⟩ := hv
    have hr := run_append_grow (P := Tryz.prog) w 235 ty 5 i (.int .u8 0) Tryz.underlying235 hi hz ⟨g, 0, none⟩ l.length cap (cellsOf l) (by rw [h1]; simp [cellsOf_length]) (fun j u hu => by
      have hj : j < l.length := by
        have := (List.getElem?_eq_some_iff.1 hu).1
        simpa [cellsOf_length] using this
      rw [show (⟨g, 0, none⟩ : Addr).add j = ⟨g, j, none⟩ by simp [Addr.add]; omega, hcell j hj, ← hu]
      simp [cellsOf, hj]) a 1 cp [Value.int .u8 (c.toNat : Int)] (by rw [h1]; rfl) hnews (by omega) (by omega) (by rw [h2]; exact growslice_fits (by omega) (by omega))
    have hge := grownCap_ge w (l.length + 1) cap 5
    have hm : grownCap w (l.length + 1) cap 5 ≤ maxLen := grownCap_le_maxLen w _ _ _ (by simp only [maxLen]; omega)
    refine ⟨_, _, hr, ⟨w.heap.size, _, _, (0, 0), by rw [e0], hB, heap_alloc_new w.drew _, .inr rfl, by omega, hm, ?_, ?_⟩, ⟨rfl, rfl, rfl, by simp, fun k hk _ => heap_alloc_old w.drew _ (by simpa using hk)⟩, .inr rfl⟩
    · have hz1 : (Value.int IntKind.u8 0).cells.size = 1 := rfl
      simp only [Array.size_append, List.size_toArray, size_zeroCells, hz1, cellsOf_length]
      simp
      omega
    · simp only [Array.toList_append]
      rw [e0, cellsOf_append]
      exact take_seg _ _ _ _ (by simp [cellsOf_length])

/-- 'string(b)'. -/
theorem bytes_back (w : World) (B : Nat) (v : Value) (l : List UInt8) (h : ByRow w B v l) : (convert 235 9 v).run Tryz.prog w = .ok (.string ⟨l.toArray⟩) w := by
  obtain ⟨g, cap, rfl, hc⟩ := h.cell
  exact run_convert_bytes_back (P := Tryz.prog) w 235 9 5 ⟨g, 0, none⟩ cap l Tryz.underlying235 Tryz.underlying5 Tryz.underlying9 (fun j hj => by
    rw [show (⟨g, 0, none⟩ : Addr).add j = ⟨g, j, none⟩ by simp [Addr.add]; omega]
    exact hc j hj)
end Go.Proofs.YtpjbfdpblgjmfaaGreatDoor

namespace Go.Proofs.YtpjbfdpblgjmfaaGreatDoor
open Go.RowKit Go.Lib

section
variable {ops : Array Oper} {rest : List Oper} {o : Oper} {a : Act} {w : World} {K : Act → World → Prop} {Q : Exit → Act → World → Prop}

theorem wp_bytes_str (s x : Operand) (hop : o.op = Op.call { callee := Callee.builtin Builtin.append, args := #[s, x], argTypes := #[235, 9] })
    (B : Nat) (v : Value) (l : List UInt8) (str : ByteArray) (hs : a.eval s = v) (hx : a.eval x = .string str) (h : ByRow w B v l) (hB : B ≤ w.heap.size) (hl : l.length + str.size ≤ 140737488355328)
    (hK : ∀ v' w', ByRow w' B v' (l ++ str.data.toList) → Below B w w' → w.grownBy w' v.ownBlock → (v'.ownBlock = v.ownBlock ∨ v'.ownBlock = some w.heap.size) → K (a.put o.dst v') w') : o.wp Tryz.prog a w K Q := by
  obtain ⟨v', w', hr, h1, h2, h3⟩ := bytes_str w B v l o.type str h hB hl
  unfold Oper.wp execOp
  simp only [hop, resolve, invoke, builtin, Sem.run_bind, Sem.run_pure, Result.andThen_ok, List.map_toArray, List.map_cons, List.map_nil, hs, hx, hr]
  exact hK _ _ h1 (h.below hB h2) h2 h3
theorem wpList_bytes_str (hgd : o.guard = none) (s x : Operand) (hop : o.op = Op.call { callee := Callee.builtin Builtin.append, args := #[s, x], argTypes := #[235, 9] })
    (B : Nat) (v : Value) (l : List UInt8) (str : ByteArray) (hs : a.eval s = v) (hx : a.eval x = .string str) (h : ByRow w B v l) (hB : B ≤ w.heap.size) (hl : l.length + str.size ≤ 140737488355328)
    (hK : ∀ v' w', ByRow w' B v' (l ++ str.data.toList) → Below B w w' → w.grownBy w' v.ownBlock → (v'.ownBlock = v.ownBlock ∨ v'.ownBlock = some w.heap.size) → wpList Tryz.prog ops Q rest (a.put o.dst v') w') : wpList Tryz.prog ops Q (o :: rest) a w :=
  wpList_plain hgd fun _ hK' => wp_bytes_str s x hop B v l str hs hx h hB hl fun v' w' h1 h2 h3 h4 => hK' _ _ (hK v' w' h1 h2 h3 h4)
theorem step_bytes_str {E : Prop} (hg : o.guard = none) (s x : Operand) (hop : o.op = Op.call { callee := Callee.builtin Builtin.append, args := #[s, x], argTypes := #[235, 9] })
    (B : Nat) (v : Value) (l : List UInt8) (str : ByteArray) (hs : a.eval s = v) (hx : a.eval x = .string str) (h : ByRow w B v l) (hB : B ≤ w.heap.size) (hl : l.length + str.size ≤ 140737488355328)
    (hK : ∀ v' w', ByRow w' B v' (l ++ str.data.toList) → Below B w w' → w.grownBy w' v.ownBlock → (v'.ownBlock = v.ownBlock ∨ v'.ownBlock = some w.heap.size) → K (a.put o.dst v') w') : if Region.wanted o (yielded ops a.tmps) = true then Oper.wp Tryz.prog o a w K Q else E := by
  have hw : Region.wanted o (yielded ops a.tmps) = true := by simp [Region.wanted, hg]
  rw [if_pos hw]
  exact wp_bytes_str s x hop B v l str hs hx h hB hl hK
theorem wpList_bytes_one (hgd : o.guard = none) (s x : Operand) (hop : o.op = Op.call { callee := Callee.builtin Builtin.append, args := #[s, x], argTypes := #[235, 235] })
    (B : Nat) (v : Value) (l : List UInt8) (ad : Addr) (c : UInt8) (cp : Nat) (hs : a.eval s = v) (hx : a.eval x = .slice (some ad) 1 cp) (hc : w.cell? ad = some (.int .u8 (c.toNat : Int))) (h : ByRow w B v l) (hB : B ≤ w.heap.size) (hl : l.length + 1 ≤ 140737488355328)
    (hK : ∀ v' w', ByRow w' B v' (l ++ [c]) → Below B w w' → w.grownBy w' v.ownBlock → (v'.ownBlock = v.ownBlock ∨ v'.ownBlock = some w.heap.size) → wpList Tryz.prog ops Q rest (a.put o.dst v') w') : wpList Tryz.prog ops Q (o :: rest) a w := by
  refine wpList_plain hgd fun K hK' => ?_
  obtain ⟨v', w', hr, h1, h2, h3⟩ := bytes_one w B v l o.type ad c cp hc h hB hl
  unfold Oper.wp execOp
  simp only [hop, resolve, invoke, builtin, Sem.run_bind, Sem.run_pure, Result.andThen_ok, List.map_toArray, List.map_cons, List.map_nil, hs, hx, hr]
  exact hK' _ _ (hK _ _ h1 (h.below hB h2) h2 h3)
end

set_option maxRecDepth 100000 in
theorem upon_bytes_of {o : Oper} {a : Act} {w : World} {K : Act → World → Prop} {Q : Exit → Act → World → Prop} {f : Value → World → Result Next} (s : ByteArray) (hs : s.size ≤ maxLen)
    (hK : ∀ v w', ByRow w' w.heap.size v s.data.toList → Below w.heap.size w w' → Oper.upon Tryz.prog o a K Q (f v w')) : Oper.upon Tryz.prog o a K Q ((Sem.run Tryz.prog (convert 9 235 (.string s)) w).andThen f) := by
  obtain ⟨v, w', hr, h1, h2⟩ := bytes_of w s hs
  rw [show Sem.run Tryz.prog (convert 9 235 (.string s)) w = .ok v w' from hr]
  exact hK v w' h1 h2
set_option maxRecDepth 100000 in
theorem upon_bytes_str {o : Oper} {a : Act} {w : World} {K : Act → World → Prop} {Q : Exit → Act → World → Prop} {f : Value → World → Result Next} {ty : TypeId} (B : Nat) (v : Value) (l : List UInt8) (s : ByteArray) (h : ByRow w B v l) (hB : B ≤ w.heap.size) (hl : l.length + s.size ≤ 140737488355328)
    (hK : ∀ v' w', ByRow w' B v' (l ++ s.data.toList) → Below B w w' → w.grownBy w' v.ownBlock → (v'.ownBlock = v.ownBlock ∨ v'.ownBlock = some w.heap.size) → Oper.upon Tryz.prog o a K Q (f v' w')) : Oper.upon Tryz.prog o a K Q ((Sem.run Tryz.prog (Builtin.append_ #[235, 9] ty #[v, .string s]) w).andThen f) := by
  obtain ⟨v', w', hr, h1, h2, h3⟩ := bytes_str w B v l ty s h hB hl
  rw [show Sem.run Tryz.prog (Builtin.append_ #[235, 9] ty #[v, .string s]) w = .ok v' w' from hr]
  exact hK v' w' h1 (h.below hB h2) h2 h3

set_option maxRecDepth 100000 in
theorem upon_bytes_one {o : Oper} {a : Act} {w : World} {K : Act → World → Prop} {Q : Exit → Act → World → Prop} {f : Value → World → Result Next} {ty : TypeId} (B : Nat) (v : Value) (l : List UInt8) (ad : Addr) (c : UInt8) (cp : Nat) (hc : w.cell? ad = some (.int .u8 (c.toNat : Int))) (h : ByRow w B v l) (hB : B ≤ w.heap.size) (hl : l.length + 1 ≤ 140737488355328)
    (hK : ∀ v' w', ByRow w' B v' (l ++ [c]) → Below B w w' → w.grownBy w' v.ownBlock → (v'.ownBlock = v.ownBlock ∨ v'.ownBlock = some w.heap.size) → Oper.upon Tryz.prog o a K Q (f v' w')) : Oper.upon Tryz.prog o a K Q ((Sem.run Tryz.prog (Builtin.append_ #[235, 235] ty #[v, .slice (some ad) 1 cp]) w).andThen f) := by
  obtain ⟨v', w', hr, h1, h2, h3⟩ := bytes_one w B v l ty ad c cp hc h hB hl
  rw [show Sem.run Tryz.prog (Builtin.append_ #[235, 235] ty #[v, .slice (some ad) 1 cp]) w = .ok v' w' from hr]
  exact hK v' w' h1 (h.below hB h2) h2 h3

/-- Numbers in a slice. -/
def IntsM (w : World) (v : Value) (l : List Int) : Prop :=
  ∃ (a : Option Addr) (c : Nat), v = .slice a l.length c ∧ l.length ≤ c ∧ (l ≠ [] → ∃ g k, a = some ⟨g, k, none⟩ ∧ ∀ i x, l[i]? = some x → w.cell? ⟨g, k + i, none⟩ = some (.int .i64 x))
def OpsM (w : World) (v : Value) (l : List Cd.Op) : Prop :=
  ∃ (a : Option Addr) (c : Nat), v = .slice a l.length c ∧ l.length ≤ c ∧ (l ≠ [] → ∃ g k, a = some ⟨g, k, none⟩ ∧ ∀ i x, l[i]? = some x → w.cell? ⟨g, k + i * 2, none⟩ = some (.string ⟨x.name.toArray⟩) ∧ w.cell? ⟨g, k + i * 2 + 1, none⟩ = some (.bool x.once))
def HansM (w : World) (v : Value) (l : List Cd.Han) : Prop :=
  ∃ (a : Option Addr) (c : Nat), v = .slice a l.length c ∧ l.length ≤ c ∧ (l ≠ [] → ∃ g k, a = some ⟨g, k, none⟩ ∧ ∀ i x, l[i]? = some x → w.cell? ⟨g, k + i * 2, none⟩ = some (.bool x.shallow) ∧ ∃ u, w.cell? ⟨g, k + i * 2 + 1, none⟩ = some u ∧ IntsM w u x.ops)
def InssM (w : World) (v : Value) (l : List Cd.Ins) : Prop :=
  ∃ (a : Option Addr) (c : Nat), v = .slice a l.length c ∧ l.length ≤ c ∧ (l ≠ [] → ∃ g k, a = some ⟨g, k, none⟩ ∧ ∀ i x, l[i]? = some x → w.cell? ⟨g, k + i * 4, none⟩ = some (.int .i64 x.op) ∧ w.cell? ⟨g, k + i * 4 + 1, none⟩ = some (.int .i64 x.a) ∧ w.cell? ⟨g, k + i * 4 + 2, none⟩ = some (.int .i64 x.b) ∧ w.cell? ⟨g, k + i * 4 + 3, none⟩ = some (.int .i64 x.n))
def FunsM (w : World) (v : Value) (l : List Cd.Fun) : Prop :=
  ∃ (a : Option Addr) (c : Nat), v = .slice a l.length c ∧ l.length ≤ c ∧ (l ≠ [] → ∃ g k, a = some ⟨g, k, none⟩ ∧ ∀ i x, l[i]? = some x → w.cell? ⟨g, k + i * 3, none⟩ = some (.int .i64 x.free) ∧ w.cell? ⟨g, k + i * 3 + 1, none⟩ = some (.int .i64 x.slots) ∧ ∃ u, w.cell? ⟨g, k + i * 3 + 2, none⟩ = some u ∧ InssM w u x.ins)
/-- A code in memory: its shape, and three slices. -/
def CodeM (w : World) (b c d : Value) (C : Cd.Code) : Prop := OpsM w b C.ops ∧ HansM w c C.hans ∧ FunsM w d C.funs

theorem kc {w w' : World} (hb : Below w.heap.size w w') {g k : Nat} {v : Value} (h : w.cell? ⟨g, k, none⟩ = some v) : w'.cell? ⟨g, k, none⟩ = some v :=
  (hb.cell (p := ⟨g, k, none⟩) (World.block_lt_of_cell? w ⟨g, k, none⟩ h)).trans h
theorem IntsM.keep {w w' : World} {v : Value} {l : List Int} (h : IntsM w v l) (hb : Below w.heap.size w w') : IntsM w' v l := by
  obtain ⟨a, c, h1, h2, h3⟩ := h
  refine ⟨a, c, h1, h2, fun h0 => ?_⟩
  obtain ⟨g, k, e, h4⟩ := h3 h0
  exact ⟨g, k, e, fun i x hx => kc hb (h4 i x hx)⟩
theorem OpsM.keep {w w' : World} {v : Value} {l : List Cd.Op} (h : OpsM w v l) (hb : Below w.heap.size w w') : OpsM w' v l := by
  obtain ⟨a, c, h1, h2, h3⟩ := h
  refine ⟨a, c, h1, h2, fun h0 => ?_⟩
  obtain ⟨g, k, e, h4⟩ := h3 h0
  exact ⟨g, k, e, fun i x hx => ⟨kc hb (h4 i x hx).1, kc hb (h4 i x hx).2⟩⟩
theorem HansM.keep {w w' : World} {v : Value} {l : List Cd.Han} (h : HansM w v l) (hb : Below w.heap.size w w') : HansM w' v l := by
  obtain ⟨a, c, h1, h2, h3⟩ := h
  refine ⟨a, c, h1, h2, fun h0 => ?_⟩
  obtain ⟨g, k, e, h4⟩ := h3 h0
  refine ⟨g, k, e, fun i x hx => ?_⟩
  obtain ⟨h5, u, h6, h7⟩ := h4 i x hx
  exact ⟨kc hb h5, u, kc hb h6, h7.keep hb⟩
theorem InssM.keep {w w' : World} {v : Value} {l : List Cd.Ins} (h : InssM w v l) (hb : Below w.heap.size w w') : InssM w' v l := by
  obtain ⟨a, c, h1, h2, h3⟩ := h
  refine ⟨a, c, h1, h2, fun h0 => ?_⟩
  obtain ⟨g, k, e, h4⟩ := h3 h0
  refine ⟨g, k, e, fun i x hx => ?_⟩
  obtain ⟨h5, h6, h7, h8⟩ := h4 i x hx
  exact ⟨kc hb h5, kc hb h6, kc hb h7, kc hb h8⟩
theorem FunsM.keep {w w' : World} {v : Value} {l : List Cd.Fun} (h : FunsM w v l) (hb : Below w.heap.size w w') : FunsM w' v l := by
  obtain ⟨a, c, h1, h2, h3⟩ := h
  refine ⟨a, c, h1, h2, fun h0 => ?_⟩
  obtain ⟨g, k, e, h4⟩ := h3 h0
  refine ⟨g, k, e, fun i x hx => ?_⟩
  obtain ⟨h5, h6, u, h7, h8⟩ := h4 i x hx
  exact ⟨kc hb h5, kc hb h6, u, kc hb h7, h8.keep hb⟩
theorem CodeM.keep {w w' : World} {b c d : Value} {C : Cd.Code} (h : CodeM w b c d C) (hb : Below w.heap.size w w') : CodeM w' b c d C := ⟨h.1.keep hb, h.2.1.keep hb, h.2.2.keep hb⟩

theorem at_some {α : Type} {l : List α} {i : Nat} (h : i < l.length) : ∃ x, l[i]? = some x ∧ l.take (i + 1) = l.take i ++ [x] ∧ x ∈ l ∧ l ≠ [] := by
  refine ⟨l[i], List.getElem?_eq_getElem h, ?_, List.getElem_mem h, ?_⟩
  · rw [List.take_add_one, List.getElem?_eq_getElem h]; rfl
  · intro e; subst e; simp at h
end Go.Proofs.YtpjbfdpblgjmfaaGreatDoor
