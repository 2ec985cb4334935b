/-
  The program's Check: its small functions; isShape.
-/
import Derived.Test.YtkfjjkpphpakbaaKa
set_option linter.unusedVariables false
set_option linter.unusedSimpArgs false
namespace Go.Proofs.Ytkfjjkpphpakbaa
open Go.RowKit Go.Maps

theorem below_c (n m : Int) (w : World) :
    Calls Try.prog 26 #[.int .i64 n, .int .i64 m] w fun e w' => e = .returned (.bool (decide (0 ≤ n ∧ n < m))) ∧ w' = w := by
  go_enter Try.func26, Try.ntmps26
  go_wp2
  all_goals
    go_ret
    refine ⟨ret_bool ?_, rfl⟩
    rw [Bool.eq_iff_iff]
    simp
    try omega
theorem kind_c (b : Bool) (k : Int) (w : World) :
    Calls Try.prog 34 #[.bool b, .int .i64 k] w fun e w' => e = .returned (.int .i64 (if b then 0 else k)) ∧ w' = w := by
  go_enter Try.func34, Try.ntmps34
  cases b
  all_goals
    go_wp2
    go_ret
    exact ⟨rfl, rfl⟩
theorem isOpc_any (op : Int) (w : World) :
    Calls Try.prog 35 #[.int .i64 op] w fun e w' => e = .returned (.bool (Cd.fits op 22)) ∧ w' = w := by
  go_enter Try.func35, Try.ntmps35
  go_wp2
  all_goals
    go_ret
    refine ⟨ret_bool ?_, rfl⟩
    unfold Cd.fits
    rw [Bool.eq_iff_iff]
    simp
    try omega
theorem ends_c (op : Int) (w : World) :
    Calls Try.prog 39 #[.int .i64 op] w fun e w' => e = .returned (.bool (decide (op = 17 ∨ op = 16))) ∧ w' = w := by
  go_enter Try.func39, Try.ntmps39
  go_wp2
  all_goals
    go_ret
    refine ⟨ret_bool ?_, rfl⟩
    rw [Bool.eq_iff_iff]
    simp_all
theorem jumps_c (op : Int) (w : World) :
    Calls Try.prog 41 #[.int .i64 op] w fun e w' => e = .returned (.bool (decide (op = 18 ∨ op = 19))) ∧ w' = w := by
  go_enter Try.func41, Try.ntmps41
  go_wp2
  all_goals
    go_ret
    refine ⟨ret_bool ?_, rfl⟩
    rw [Bool.eq_iff_iff]
    simp_all
theorem puts_c (op : Int) (w : World) :
    Calls Try.prog 40 #[.int .i64 op] w fun e w' => e = .returned (.int .i64 (if op = 4 ∨ op = 14 ∨ op = 20 ∨ op = 19 ∨ op = 17 ∨ op = 16 ∨ op = 18 then 0 else 1)) ∧ w' = w := by
  go_enter Try.func40, Try.ntmps40
  go_wp2
  all_goals
    go_ret
    refine ⟨ret_int ?_, rfl⟩
    simp_all

set_option maxHeartbeats 4000000 in
theorem isShape_c (s : List UInt8) (w : World) (hs : s.length ≤ 65535) :
    Calls Try.prog 14 #[.string ⟨s.toArray⟩] w fun e w' => e = .returned (.bool (Cd.isSh s 1)) ∧ w' = w := by
  have hsz := size_mk s
  go_enter Try.func14, Try.ntmps14
  go_wp2
  go_loop [3, 7] (fun l t => ∃ (k n : Nat), t = .int .i64 k ∧ l = .int .i64 n ∧ k ≤ s.length ∧ n ≤ k + 1 ∧ Hid (Cd.isSh s 1 = Cd.isSh (s.drop k) n)) (fun _ t => s.length - (intOf t).toNat)
  case atStart => exact ⟨0, 1, rfl, rfl, Nat.zero_le _, by omega, rfl⟩
  case round =>
    obtain ⟨k, n, rfl, rfl, hk, hn, H⟩ := hrel
    by_cases hlt : k < s.length
    · have hd : s.drop k = s[k] :: s.drop (k + 1) := List.drop_eq_getElem_cons hlt
      obtain ⟨c, hc0⟩ : ∃ c, s[k] = c := ⟨_, rfl⟩
      have hg : ∀ hx, (⟨s.toArray⟩ : ByteArray)[k]'hx = c := fun _ => hc0
      rw [hc0] at hd
      have HD := hid hd
      clear hd hc0
      cases n with
      | zero =>
        go_wp2
        go_ret
        exact ⟨by rw [H.out, HD.out]; rfl, rfl⟩
      | succ n =>
        rcases (show (c.toNat = 105 ∨ c.toNat = 98 ∨ c.toNat = 117 ∨ c.toNat = 102 ∨ c.toNat = 118) ∨ c.toNat = 108 ∨ c.toNat = 112 ∨
            (c.toNat ≠ 105 ∧ c.toNat ≠ 98 ∧ c.toNat ≠ 117 ∧ c.toNat ≠ 102 ∧ c.toNat ≠ 118 ∧ c.toNat ≠ 108 ∧ c.toNat ≠ 112) by omega) with hc | hc | hc | hc
        · have HS := hid (Cd.isSh_leaf (l := s.drop (k + 1)) (n := n) hc)
          rcases hc with hc | hc | hc | hc | hc
          all_goals
            go_wp2
            go_round
            case rel => exact ⟨k + 1, n, by go_num, by go_num, by omega, by omega, hid (by rw [H.out, HD.out, HS.out])⟩
            case measure => simp [intOf]; omega
        · have HS := hid (Cd.isSh_l (l := s.drop (k + 1)) (n := n) hc)
          go_wp2
          go_round
          case rel => exact ⟨k + 1, n + 1, by go_num, by go_num, by omega, by omega, hid (by rw [H.out, HD.out, HS.out])⟩
          case measure => simp [intOf]; omega
        · have HS := hid (Cd.isSh_p (l := s.drop (k + 1)) (n := n) hc)
          go_wp2
          go_round
          case rel => exact ⟨k + 1, n + 2, by go_num, by go_num, by omega, by omega, hid (by rw [H.out, HD.out, HS.out])⟩
          case measure => simp [intOf]; omega
        · have HS := hid (Cd.isSh_no (l := s.drop (k + 1)) (n := n) hc)
          obtain ⟨h1, h2, h3, h4, h5, h6, h7⟩ := hc
          have b1 : (((c.toNat : Nat) : Int) == 105) = false := by simp; omega
          have b2 : (((c.toNat : Nat) : Int) == 98) = false := by simp; omega
          have b3 : (((c.toNat : Nat) : Int) == 117) = false := by simp; omega
          have b4 : (((c.toNat : Nat) : Int) == 102) = false := by simp; omega
          have b5 : (((c.toNat : Nat) : Int) == 118) = false := by simp; omega
          have b6 : (((c.toNat : Nat) : Int) == 108) = false := by simp; omega
          have b7 : (((c.toNat : Nat) : Int) == 112) = false := by simp; omega
          clear h1 h2 h3 h4 h5 h6 h7
          go_wp2
          go_ret
          exact ⟨by rw [H.out, HD.out, HS.out]; rfl, rfl⟩
    · go_wp2
      all_goals
        go_ret
        refine ⟨ret_bool ?_, rfl⟩
        rw [H.out, List.drop_eq_nil_of_le (by omega)]
        unfold Cd.isSh
        rw [Bool.eq_iff_iff]
        simp
        try omega
end Go.Proofs.Ytkfjjkpphpakbaa
