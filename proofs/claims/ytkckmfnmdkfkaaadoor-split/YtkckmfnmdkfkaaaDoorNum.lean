/-
  Rows of digits, in plain words: what ParseInt makes of them, and that it is what they say.
-/
import Derived.Test.YtkckmfnmdkfkaaaDoorLexD
import Derived.Lib.ParseIntB
namespace Go.Proofs.YtkckmfnmdkfkaaaDoor
open Go.RowKit

def numFrom (a : Nat) (l : List UInt8) : Nat := l.foldl (fun a c => 10 * a + (c.toNat - 48)) a
theorem numFrom_ge (l : List UInt8) : ∀ a, a ≤ numFrom a l := by
  induction l with
  | nil => intro a; exact Nat.le_refl _
  | cons c r ih =>
    intro a
    have := ih (10 * a + (c.toNat - 48))
    show a ≤ numFrom (10 * a + (c.toNat - 48)) r
    omega

def maxU : Nat := 18446744073709551615

theorem parseM (l : List UInt8) : ∀ a, a ≤ maxU → (∀ c ∈ l, 48 ≤ c.toNat ∧ c.toNat ≤ 57) → Lib.parseUintM maxU a l = if numFrom a l ≤ maxU then .ok (numFrom a l) else .range := by
  induction l with
  | nil =>
    intro a ha _
    have : numFrom a [] = a := rfl
    rw [this, if_pos ha]; rfl
  | cons c r ih =>
    intro a ha hd
    have hc := hd c (List.mem_cons_self ..)
    have e0 : a * 10 + (c.toNat - 48) = 10 * a + (c.toNat - 48) := by omega
    have e1 : numFrom a (c :: r) = numFrom (10 * a + (c.toNat - 48)) r := rfl
    have hge := numFrom_ge r (10 * a + (c.toNat - 48))
    rw [Lib.parseUintM, if_pos hc, e0, e1]
    by_cases h1 : 1844674407370955162 ≤ a
    · rw [if_pos h1, if_neg (by unfold maxU; omega)]
    · rw [if_neg h1]
      by_cases h2 : maxU < 10 * a + (c.toNat - 48)
      · rw [if_pos h2, if_neg (by omega)]
      · rw [if_neg h2]
        exact ih _ (by omega) (fun x hx => hd x (List.mem_cons_of_mem _ hx))

theorem maxU_eq : (2 : Nat) ^ 64 - 1 = maxU := by unfold maxU; rfl
theorem half_eq : (2 : Nat) ^ (64 - 1) = 9223372036854775808 := rfl

theorem parse_digits (l : List UInt8) (hne : l ≠ []) (hd : ∀ c ∈ l, 48 ≤ c.toNat ∧ c.toNat ≤ 57) :
    (Lx.numVal l ≤ 9223372036854775807 → Lib.parseIntB 64 l = .ok (Lx.numVal l : Int)) ∧ (9223372036854775807 < Lx.numVal l → Lib.parseIntB 64 l = .range) := by
  cases l with
  | nil => exact absurd rfl hne
  | cons c r =>
    have hc := hd c (List.mem_cons_self ..)
    have hn : ¬ (c.toNat = 43 ∨ c.toNat = 45) := by omega
    have hn2 : ¬ (c.toNat = 45) := by omega
    have hnv : Lx.numVal (c :: r) = numFrom 0 (c :: r) := rfl
    have hu : Lib.parseUintB 64 (c :: r) = if numFrom 0 (c :: r) ≤ maxU then .ok (numFrom 0 (c :: r)) else .range := by
      rw [Lib.parseUintB, if_neg (by simp), maxU_eq]
      exact parseM (c :: r) 0 (Nat.zero_le _) hd
    rw [hnv]
    generalize numFrom 0 (c :: r) = v at *
    constructor
    · intro hv
      rw [if_pos (by unfold maxU; omega)] at hu
      rw [Lib.parseIntB, if_neg hn, hu]
      dsimp only
      rw [half_eq, if_neg (by omega), if_neg (by omega), if_neg hn2]
    · intro hv
      rw [Lib.parseIntB, if_neg hn, hu]
      by_cases hm : v ≤ maxU
      · rw [if_pos hm]
        dsimp only
        rw [half_eq, if_pos (by omega)]
      · rw [if_neg hm]

/-- A token's answer, as the program's small readers give it: the place is not yet laid in. -/
def LexPost (s : ByteArray) (w : World) (e : Ending) (w' : World) : Prop :=
  Below w.heap.size w w' ∧
    ((∃ t n, Lx.tokAt 0 s.data.toList = .ok (t, n) ∧ e = .returned (.tuple #[tkVal t, .int .i64 (n : Nat)])) ∨
     (Lx.tokAt 0 s.data.toList = .error (3, 0) ∧ e = .returned (.tuple #[tkVal ⟨0, 0, [], 0⟩, .int .i64 0])))

theorem lex_ok {s : ByteArray} {w w' : World} {e : Ending} {t : Lx.Tk} {n : Nat} (h : Lx.tokAt 0 s.data.toList = .ok (t, n)) (he : e = .returned (.tuple #[tkVal t, .int .i64 (n : Nat)])) (hb : Below w.heap.size w w') : LexPost s w e w' :=
  ⟨hb, .inl ⟨t, n, h, he⟩⟩
theorem lex_no {s : ByteArray} {w w' : World} {e : Ending} (h : Lx.tokAt 0 s.data.toList = .error (3, 0)) (he : e = .returned (.tuple #[tkVal ⟨0, 0, [], 0⟩, .int .i64 0])) (hb : Below w.heap.size w w') : LexPost s w e w' :=
  ⟨hb, .inr ⟨h, he⟩⟩

theorem spanP_false : spanP false = Lx.isDig := by funext c; simp [spanP]
theorem spanP_true : spanP true = Lx.isNm := by funext c; simp [spanP, Lx.isNm, Bool.or_comm]
end Go.Proofs.YtkckmfnmdkfkaaaDoor
