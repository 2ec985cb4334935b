/-
  What the program's classOf, span, isWord and textToken answer.
-/
import Derived.Test.YtkckmfnmdkfkaaaDoorLexA
import Derived.Lib.IndexAny
namespace Go.Proofs.YtkckmfnmdkfkaaaDoor
open Go.RowKit


set_option maxRecDepth 100000 in
set_option maxHeartbeats 1000000 in
theorem contains_lo (r : Nat) (w : World) (h : r < 128) :
    Calls Tryd.prog 16 #[.string ⟨#[40, 41, 91, 93, 123, 125, 44, 59, 58, 61, 45, 43, 42, 60, 124, 126]⟩, .int .i32 r] w fun e w' => e = .returned (.bool (Lx.sigBytes.contains r.toUInt8)) ∧ w' = w := by
  have HC := hid (Lib.contains_iff_indexByte Lx.sigBytes r.toUInt8)
  have hr : (r : Int) < 128 := by omega
  have hw8 : IntKind.u8.wrap (r : Int) = r := by unfold IntKind.wrap; simp [IntKind.bits, IntKind.signed]; omega
  go_enter Tryd.func16, Tryd.ntmps16
  go_wp2_with (first | (go_at_call 11; refine (Tryd.strings_IndexByte _ _ _).mono ?_; rintro e w' ⟨rfl, rfl⟩) | go_in)
  go_ret
  exact ⟨ret_bool HC.out.symm, rfl⟩

set_option maxRecDepth 100000 in
set_option maxHeartbeats 1000000 in
theorem contains_hi (r : Int) (w : World) (h : 128 ≤ r) :
    Calls Tryd.prog 16 #[.string ⟨#[40, 41, 91, 93, 123, 125, 44, 59, 58, 61, 45, 43, 42, 60, 124, 126]⟩, .int .i32 r] w fun e w' => e = .returned (.bool false) ∧ Below w.heap.size w w' := by
  by_cases h5 : r = 65533
  · subst h5
    go_enter Tryd.func16, Tryd.ntmps16
    go_wp2_with (go_at_call 28; refine (indexRune_e _).mono ?_; rintro e w1 ⟨rfl, hb⟩)
    go_ret
    exact ⟨rfl, hb⟩
  · go_enter Tryd.func16, Tryd.ntmps16
    go_wp2_with (go_at_call 28; refine (indexRune_d r _ h h5).mono ?_; rintro e w1 ⟨rfl, hb⟩)
    go_ret
    exact ⟨rfl, hb⟩

/-- The class of a byte. -/
def clB (c : UInt8) : Nat := if Lx.isBl c then 1 else if c.toNat = 35 then 2 else if Lx.isDig c then 3 else if Lx.isLet c then 4 else if Lx.isSg c then 5 else 0

theorem clB_blank {c : UInt8} (h : c.toNat = 9 ∨ c.toNat = 10 ∨ c.toNat = 13 ∨ c.toNat = 32) : clB c = 1 := by
  have : Lx.isBl c = true := by rcases h with h | h | h | h <;> simp [Lx.isBl, h]
  simp [clB, this]
theorem clB_hash {c : UInt8} (h : c.toNat = 35) : clB c = 2 := by
  have : Lx.isBl c = false := by simp [Lx.isBl, h]
  simp [clB, this, h]
theorem clB_dig {c : UInt8} (h : 48 ≤ c.toNat ∧ c.toNat ≤ 57) : clB c = 3 := by
  have h1 : Lx.isBl c = false := by simp [Lx.isBl]; omega
  have h2 : Lx.isDig c = true := by simp [Lx.isDig, h]
  have h3 : c.toNat ≠ 35 := by omega
  simp [clB, h1, h2, h3]
theorem clB_let {c : UInt8} (h : (97 ≤ c.toNat ∧ c.toNat ≤ 122) ∨ (65 ≤ c.toNat ∧ c.toNat ≤ 90) ∨ c.toNat = 95) : clB c = 4 := by
  have h1 : Lx.isBl c = false := by simp [Lx.isBl]; omega
  have h2 : Lx.isDig c = false := by
    cases hq : Lx.isDig c with
    | false => rfl
    | true => have := (isDig_iff c).1 hq; omega
  have h3 : c.toNat ≠ 35 := by omega
  have h4 : Lx.isLet c = true := by simp [Lx.isLet]; omega
  simp [clB, h1, h2, h3, h4]
theorem clB_other {c : UInt8} (h : c.toNat ≠ 9 ∧ c.toNat ≠ 10 ∧ c.toNat ≠ 13 ∧ c.toNat ≠ 32 ∧ c.toNat ≠ 35 ∧ c.toNat ≠ 95) (h2 : ¬ (48 ≤ c.toNat ∧ c.toNat ≤ 57)) (h3 : ¬ (97 ≤ c.toNat ∧ c.toNat ≤ 122)) (h4 : ¬ (65 ≤ c.toNat ∧ c.toNat ≤ 90)) :
    clB c = if Lx.isSg c then 5 else 0 := by
  have e1 : Lx.isBl c = false := by simp [Lx.isBl]; omega
  have e2 : Lx.isDig c = false := by
    cases hq : Lx.isDig c with
    | false => rfl
    | true => have := (isDig_iff c).1 hq; omega
  have e4 : Lx.isLet c = false := by
    cases hq : Lx.isLet c with
    | false => rfl
    | true =>
      simp [Lx.isLet] at hq
      omega
  simp [clB, e1, e2, h.2.2.2.2.1, e4]

theorem toNat_back (c : UInt8) : c.toNat.toUInt8 = c := by simp

set_option maxRecDepth 100000 in
set_option maxHeartbeats 2000000 in
theorem classOf_lo (c : UInt8) (w : World) (h : c.toNat < 128) :
    Calls Tryd.prog 10 #[.int .i32 c.toNat] w fun e w' => e = .returned (.int .i64 (clB c)) ∧ w' = w := by
  by_cases hb : c.toNat = 9 ∨ c.toNat = 10 ∨ c.toNat = 13 ∨ c.toNat = 32
  · have HC := hid (clB_blank hb)
    rcases hb with hb | hb | hb | hb
    all_goals
      go_enter Tryd.func10, Tryd.ntmps10
      go_wp2
      go_ret
      exact ⟨ret_int (by rw [HC.out]; rfl), rfl⟩
  · by_cases hh : c.toNat = 35
    · have HC := hid (clB_hash hh)
      go_enter Tryd.func10, Tryd.ntmps10
      go_wp2
      go_ret
      exact ⟨ret_int (by rw [HC.out]; rfl), rfl⟩
    · have e9 : ((c.toNat : Int) == 9) = false := by simp; omega
      have e10 : ((c.toNat : Int) == 10) = false := by simp; omega
      have e13 : ((c.toNat : Int) == 13) = false := by simp; omega
      have e32 : ((c.toNat : Int) == 32) = false := by simp; omega
      have e35 : ((c.toNat : Int) == 35) = false := by simp; omega
      by_cases hd : 48 ≤ c.toNat ∧ c.toNat ≤ 57
      · have HC := hid (clB_dig hd)
        obtain ⟨d1, d2⟩ := hd
        have d1' : (48 : Int) ≤ c.toNat := by omega
        have d2' : (c.toNat : Int) ≤ 57 := by omega
        clear hb hh
        go_enter Tryd.func10, Tryd.ntmps10
        go_wp2
        go_ret
        exact ⟨ret_int (by rw [HC.out]; rfl), rfl⟩
      · by_cases hl : (97 ≤ c.toNat ∧ c.toNat ≤ 122) ∨ (65 ≤ c.toNat ∧ c.toNat ≤ 90) ∨ c.toNat = 95
        · have HC := hid (clB_let hl)
          clear hb hh hd
          rcases hl with ⟨d1, d2⟩ | ⟨d1, d2⟩ | d1
          all_goals
            go_enter Tryd.func10, Tryd.ntmps10
            go_wp2
            go_ret
            exact ⟨ret_int (by rw [HC.out]; rfl), rfl⟩
        · have e95 : ((c.toNat : Int) == 95) = false := by simp; omega
          have HC := hid (clB_other (c := c) ⟨by omega, by omega, by omega, by omega, by omega, by omega⟩ hd (by omega) (by omega))
          have HT := hid (toNat_back c)
          have hr : c.toNat < 48 ∨ (57 < c.toNat ∧ c.toNat < 65) ∨ (90 < c.toNat ∧ c.toNat < 97) ∨ 122 < c.toNat := by omega
          clear hb hh hd hl
          cases hs : Lx.isSg c with
          | true =>
            have hs2 : Lx.sigBytes.contains c.toNat.toUInt8 = true := by rw [HT.out]; exact hs
            have HS := hid hs
            clear hs
            rcases hr with hr | ⟨hr, hr2⟩ | ⟨hr, hr2⟩ | hr
            all_goals
              go_enter Tryd.func10, Tryd.ntmps10
              go_wp2_with (go_at_call 16; refine (contains_lo c.toNat _ h).mono ?_; rintro e w' ⟨rfl, rfl⟩; rw [hs2])
              go_ret
              exact ⟨ret_int (by rw [HC.out, HS.out]; rfl), rfl⟩
          | false =>
            have hs2 : Lx.sigBytes.contains c.toNat.toUInt8 = false := by rw [HT.out]; exact hs
            have HS := hid hs
            clear hs
            rcases hr with hr | ⟨hr, hr2⟩ | ⟨hr, hr2⟩ | hr
            all_goals
              go_enter Tryd.func10, Tryd.ntmps10
              go_wp2_with (go_at_call 16; refine (contains_lo c.toNat _ h).mono ?_; rintro e w' ⟨rfl, rfl⟩; rw [hs2])
              go_ret
              exact ⟨ret_int (by rw [HC.out, HS.out]; rfl), rfl⟩

set_option maxRecDepth 100000 in
set_option maxHeartbeats 1000000 in
theorem classOf_hi (r : Int) (w : World) (h : 128 ≤ r) :
    Calls Tryd.prog 10 #[.int .i32 r] w fun e w' => e = .returned (.int .i64 0) ∧ Below w.heap.size w w' := by
  have e9 : (r == 9) = false := by simp; omega
  have e10 : (r == 10) = false := by simp; omega
  have e13 : (r == 13) = false := by simp; omega
  have e32 : (r == 32) = false := by simp; omega
  have e35 : (r == 35) = false := by simp; omega
  have e95 : (r == 95) = false := by simp; omega
  go_enter Tryd.func10, Tryd.ntmps10
  go_wp2_with (go_at_call 16; refine (contains_hi r _ h).mono ?_; rintro e w1 ⟨rfl, hb⟩)
  go_ret
  exact ⟨rfl, hb⟩
end Go.Proofs.YtkckmfnmdkfkaaaDoor
