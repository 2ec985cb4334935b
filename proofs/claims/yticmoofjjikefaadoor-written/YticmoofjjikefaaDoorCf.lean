/-
  The document's reader of bytes, as plain functions that go on behind a fault as it does.
-/
import Derived.Test.YticmoofjjikefaaDoorCa
set_option linter.unusedVariables false
set_option linter.unusedSimpArgs false
namespace Go.Proofs.YticmoofjjikefaaDoor
namespace Cd

/-- Where it is, and the first fault: its kind and its place. -/
structure Rd where
  pos : Nat
  fk : Nat
  fa : Nat
deriving DecidableEq
def Rd.no (r : Rd) (k a : Nat) : Rd := if r.fk = 0 then ⟨r.pos, k, a⟩ else r
def Rd.has (s : List UInt8) (n : Nat) (r : Rd) : Prop := r.fk = 0 ∧ r.pos + n ≤ s.length
instance (s : List UInt8) (n : Nat) (r : Rd) : Decidable (r.has s n) := by unfold Rd.has; exact inferInstance
def Rd.num (s : List UInt8) (n : Nat) (r : Rd) : Nat × Rd := if r.has s n then (Cd.num ((s.drop r.pos).take n), ⟨r.pos + n, r.fk, r.fa⟩) else (0, r.no 13 s.length)
def Rd.text (s : List UInt8) (n : Nat) (r : Rd) : List UInt8 × Rd := if r.has s n then ((s.drop r.pos).take n, ⟨r.pos + n, r.fk, r.fa⟩) else ([], r.no 13 s.length)
def Rd.flag (s : List UInt8) (r : Rd) : Bool × Rd := ((r.num s 1).1 == 1, if 1 < (r.num s 1).1 then (r.num s 1).2.no 14 ((r.num s 1).2.pos - 1) else (r.num s 1).2)
/-- A number of 64 bits, two's complement. -/
def sgn (v : Nat) : Int := if v < 9223372036854775808 then v else v - 18446744073709551616
def Rd.ins (s : List UInt8) (r : Rd) : Ins × Rd :=
  let a := r.num s 1
  if a.2.fk = 0 ∧ 23 ≤ a.1 then (⟨0, 0, 0, 0⟩, a.2.no 15 (a.2.pos - 1))
  else if form a.1 = 8 then (⟨a.1, 0, 0, sgn (a.2.num s 8).1⟩, (a.2.num s 8).2)
  else if form a.1 = 1 then (⟨a.1, (a.2.num s 2).1, 0, 0⟩, (a.2.num s 2).2)
  else if form a.1 = 2 then (⟨a.1, (a.2.num s 2).1, ((a.2.num s 2).2.num s 2).1, 0⟩, ((a.2.num s 2).2.num s 2).2)
  else (⟨a.1, 0, 0, 0⟩, a.2)

theorem fold_lt : ∀ (l : List UInt8) (v : Nat), l.foldl (fun v c => v * 256 + c.toNat) v < (v + 1) * 256 ^ l.length
  | [], v => by simp
  | c :: l, v => by
    have h := fold_lt l (v * 256 + c.toNat)
    have hc := c.toNat_lt
    simp only [List.foldl_cons, List.length_cons]
    refine Nat.lt_of_lt_of_le h ?_
    rw [Nat.pow_succ, Nat.mul_comm (256 ^ l.length) 256, ← Nat.mul_assoc]
    exact Nat.mul_le_mul_right _ (by omega)
theorem num_lt (l : List UInt8) : num l < 256 ^ l.length := by
  have := fold_lt l 0
  unfold num
  omega
theorem sgn_small {v : Nat} (h : v < 9223372036854775808) : sgn v = v := by simp [sgn, h]
theorem num_one_lt (s : List UInt8) (r : Rd) : (r.num s 1).1 < 256 := by
  unfold Rd.num
  split
  · have := num_lt ((s.drop r.pos).take 1)
    have h2 : ((s.drop r.pos).take 1).length ≤ 1 := by simp; omega
    have h3 : 256 ^ ((s.drop r.pos).take 1).length ≤ 256 ^ 1 := Nat.pow_le_pow_right (by decide) h2
    omega
  · simp
theorem num_two_lt (s : List UInt8) (r : Rd) : (r.num s 2).1 < 65536 := by
  unfold Rd.num
  split
  · have := num_lt ((s.drop r.pos).take 2)
    have h2 : ((s.drop r.pos).take 2).length ≤ 2 := by simp; omega
    have h3 : 256 ^ ((s.drop r.pos).take 2).length ≤ 256 ^ 2 := Nat.pow_le_pow_right (by decide) h2
    omega
  · simp
end Cd
end Go.Proofs.YticmoofjjikefaaDoor
