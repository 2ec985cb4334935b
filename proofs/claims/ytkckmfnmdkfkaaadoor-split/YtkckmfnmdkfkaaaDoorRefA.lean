/-
  What the document's small functions on bytes answer, each for every byte: digit, letter, blank, pass.
-/
import Derived.Test.YtkckmfnmdkfkaaaDoorProg
import Derived.Test.YtkckmfnmdkfkaaaDoorLex
import Derived.WalkSpells
namespace Go.Proofs.YtkckmfnmdkfkaaaDoor
open Go.RowKit

theorem ret_bool {a b : Bool} (h : a = b) : Ending.returned (.bool a) = .returned (.bool b) := by rw [h]
theorem ret_int {k : IntKind} {a b : Int} (h : a = b) : Ending.returned (.int k a) = .returned (.int k b) := by rw [h]

set_option maxHeartbeats 400000 in
theorem digit_any (c : UInt8) (w : World) :
    Calls Tryd.prog 23 #[.int .u8 c.toNat] w fun e w' => e = .returned (.bool (Lx.isDig c)) ∧ w' = w := by
  go_enter Tryd.func23, Tryd.ntmps23
  go_wp2
  all_goals
    go_ret
    refine ⟨ret_bool ?_, rfl⟩
    unfold Lx.isDig
    rw [Bool.eq_iff_iff]
    simp
    omega

set_option maxHeartbeats 400000 in
theorem letter_any (c : UInt8) (w : World) :
    Calls Tryd.prog 25 #[.int .u8 c.toNat] w fun e w' => e = .returned (.bool (Lx.isLet c)) ∧ w' = w := by
  go_enter Tryd.func25, Tryd.ntmps25
  go_wp2
  all_goals
    go_ret
    refine ⟨ret_bool ?_, rfl⟩
    unfold Lx.isLet
    rw [Bool.eq_iff_iff]
    simp
    omega

set_option maxHeartbeats 400000 in
theorem blank_any (c : UInt8) (w : World) :
    Calls Tryd.prog 33 #[.int .u8 c.toNat] w fun e w' => e = .returned (.bool (Lx.isBl c)) ∧ w' = w := by
  go_enter Tryd.func33, Tryd.ntmps33
  go_wp2
  all_goals
    go_ret
    refine ⟨ret_bool ?_, rfl⟩
    unfold Lx.isBl
    rw [Bool.eq_iff_iff]
    simp
    omega

theorem drop_cons (s : ByteArray) (k : Nat) (h : k < s.size) : s.data.toList.drop k = s[k] :: s.data.toList.drop (k + 1) := by
  rw [List.drop_eq_getElem_cons (by simpa using h)]; rfl
theorem drop_end (s : ByteArray) (k : Nat) (h : s.size ≤ k) : s.data.toList.drop k = [] := List.drop_eq_nil_of_le (by simpa using h)

/-- pass: behind blanks and remarks. -/
def PassTo (s : ByteArray) (i j : Nat) : Prop :=
  i ≤ j ∧ j ≤ s.size ∧ Lx.lex s.size j (s.data.toList.drop j) = Lx.lex s.size i (s.data.toList.drop i) ∧ ∀ h : j < s.size, Lx.isBl s[j] = false ∧ (s[j]).toNat ≠ 35

theorem pass_blank {s : ByteArray} {i : Nat} (h : i < s.size) (hb : Lx.isBl s[i] = true) : Lx.lex s.size (i + 1) (s.data.toList.drop (i + 1)) = Lx.lex s.size i (s.data.toList.drop i) := by
  rw [drop_cons s i h, Lx.lex_blank _ _ _ _ hb]
theorem pass_hash {s : ByteArray} {i : Nat} (h : i < s.size) (hb : (s[i]).toNat = 35) : Lx.lexRem s.size i (s.data.toList.drop i) = Lx.lex s.size i (s.data.toList.drop i) := by
  rw [drop_cons s i h, Lx.lex_hash _ _ _ _ hb]
theorem pass_in {s : ByteArray} {i : Nat} (h : i < s.size) (hb : Lx.notNl s[i] = true) : Lx.lexRem s.size (i + 1) (s.data.toList.drop (i + 1)) = Lx.lexRem s.size i (s.data.toList.drop i) := by
  rw [drop_cons s i h, Lx.lexRem_in _ _ _ _ hb]
theorem pass_nl {s : ByteArray} {i : Nat} (h : i < s.size) (hb : (s[i]).toNat = 10) : Lx.lex s.size i (s.data.toList.drop i) = Lx.lexRem s.size i (s.data.toList.drop i) := by
  rw [drop_cons s i h, Lx.lexRem_nl _ _ _ _ hb]
theorem pass_end {s : ByteArray} {i : Nat} (h : s.size ≤ i) : Lx.lex s.size i (s.data.toList.drop i) = Lx.lexRem s.size i (s.data.toList.drop i) := by
  rw [drop_end s i h, Lx.lexRem_nil, Lx.lex_nil]

theorem hid {p : Prop} (h : p) : Hid p := h

set_option maxHeartbeats 1000000 in
theorem pass_any (s : ByteArray) (i : Nat) (w : World) (hs : s.size ≤ 3000) (hi : i ≤ s.size) :
    Calls Tryd.prog 22 #[.string s, .int .i64 i] w fun e w' => ∃ j : Nat, e = .returned (.int .i64 j) ∧ PassTo s i j ∧ w' = w := by
  go_enter Tryd.func22, Tryd.ntmps22
  go_wp2
  go_loop [1] (fun t => ∃ k : Nat, t = .int .i64 k ∧ i ≤ k ∧ k ≤ s.size ∧ Hid (Lx.lex s.size k (s.data.toList.drop k) = Lx.lex s.size i (s.data.toList.drop i))) (fun t => s.size - (intOf t).toNat)
  case atStart => exact ⟨i, rfl, Nat.le_refl _, hi, hid rfl⟩
  case round =>
    obtain ⟨k, rfl, hik, hk, H⟩ := hrel
    by_cases hlt : k < s.size
    · cases hb : Lx.isBl s[k] with
      | true =>
        have H2 := hid (pass_blank hlt hb)
        go_wp2_with (go_at_call 33; refine (blank_any _ _).mono ?_; rintro e w' ⟨rfl, rfl⟩)
        go_round
        case rel => exact ⟨k + 1, by go_num, by omega, by omega, hid (H2.out.trans H.out)⟩
        case measure => simp [intOf]; omega
      | false =>
        by_cases h35 : (s[k]).toNat = 35
        · have H2 := hid (pass_hash hlt h35)
          have h35' : (((s[k]).toNat : Int) != 35) = false := by simp [h35]
          have H35 := hid h35
          clear h35
          go_wp2_with (go_at_call 33; refine (blank_any _ _).mono ?_; rintro e w' ⟨rfl, rfl⟩)
          go_loop [1] (fun t => ∃ j : Nat, t = .int .i64 j ∧ k ≤ j ∧ j ≤ s.size ∧ Hid (Lx.lexRem s.size j (s.data.toList.drop j) = Lx.lexRem s.size k (s.data.toList.drop k))) (fun t => s.size - (intOf t).toNat)
          case atStart => exact ⟨k, rfl, Nat.le_refl _, hk, hid rfl⟩
          case round =>
            obtain ⟨j, rfl, hkj, hj, HJ⟩ := hrel
            by_cases hjl : j < s.size
            · by_cases h10 : (s[j]).toNat = 10
              · have hne : j ≠ k := by
                  intro e
                  subst e
                  have := H35.out
                  omega
                have H10 := hid (pass_nl hjl h10)
                have h10' : (((s[j]).toNat : Int) != 10) = false := by simp [h10]
                clear h10
                go_wp2
                go_round
                case rel => exact ⟨j, rfl, by omega, by omega, hid (H10.out.trans (HJ.out.trans (H2.out.trans H.out)))⟩
                case measure => simp [intOf]; omega
              · have H10 := hid (pass_in hjl (show Lx.notNl s[j] = true by simp [Lx.notNl, h10]))
                have h10' : (((s[j]).toNat : Int) != 10) = true := by simp; omega
                clear h10
                go_wp2
                go_round
                case rel => exact ⟨j + 1, by go_num, by omega, by omega, hid (H10.out.trans HJ.out)⟩
                case measure => simp [intOf]; omega
            · have H10 := hid (pass_end (s := s) (i := j) (by omega))
              go_wp2
              go_round
              case rel => exact ⟨j, rfl, by omega, by omega, hid (H10.out.trans (HJ.out.trans (H2.out.trans H.out)))⟩
              case measure => simp [intOf]; omega
        · have h35' : (((s[k]).toNat : Int) != 35) = true := by simp; omega
          have HP : Hid (PassTo s i k) := ⟨hik, hk, H.out, fun _ => ⟨hb, h35⟩⟩
          clear h35
          go_wp2_with (go_at_call 33; refine (blank_any _ _).mono ?_; rintro e w' ⟨rfl, rfl⟩)
          go_ret
          exact ⟨k, rfl, HP.out, rfl⟩
    · go_wp2
      go_ret
      exact ⟨k, rfl, ⟨hik, hk, H.out, fun h => absurd h hlt⟩, rfl⟩
end Go.Proofs.YtkckmfnmdkfkaaaDoor
