/-
  The program's reader in memory: text, flag.
-/
import Derived.Test.YticmoofjjikefaaDoorRa
import Derived.Test.YticmoofjjikefaaDoorSh
set_option linter.unusedVariables false
set_option linter.unusedSimpArgs false
namespace Go.Proofs.YticmoofjjikefaaDoor
open Go.RowKit Go.Lib

theorem num_le (s : List UInt8) (n p : Nat) (hp : p ≤ s.length) : (Cd.Rd.num s n (Cd.Rd.at_ p)).2.pos ≤ s.length := by
  unfold Cd.Rd.num Cd.Rd.no Cd.Rd.at_
  split
  · rename_i h; exact h.2
  · simp; exact hp
theorem text_le (s : List UInt8) (n p : Nat) (hp : p ≤ s.length) : (Cd.Rd.text s n (Cd.Rd.at_ p)).2.pos ≤ s.length := by
  unfold Cd.Rd.text Cd.Rd.no Cd.Rd.at_
  split
  · rename_i h; exact h.2
  · simp; exact hp
theorem rd_ok {r : Cd.Rd} (h : r.fk = 0) (ha : r.fa = 0) : r = Cd.Rd.at_ r.pos := by
  obtain ⟨a, b, c⟩ := r
  simp at h ha
  subst h ha
  rfl
theorem num_fa (s : List UInt8) (n p : Nat) (h : (Cd.Rd.num s n (Cd.Rd.at_ p)).2.fk = 0) : (Cd.Rd.num s n (Cd.Rd.at_ p)).2 = Cd.Rd.at_ (p + n) := by
  unfold Cd.Rd.num Cd.Rd.no Cd.Rd.at_ at h ⊢
  split
  · rfl
  · rename_i h2
    rw [if_neg h2] at h
    simp at h
theorem num_bad (s : List UInt8) (n p : Nat) (h : (Cd.Rd.num s n (Cd.Rd.at_ p)).2.fk ≠ 0) : Cd.Rd.num s n (Cd.Rd.at_ p) = (0, ⟨p, 13, s.length⟩) := by
  unfold Cd.Rd.num Cd.Rd.no Cd.Rd.at_ at h ⊢
  split
  · rename_i h2; rw [if_pos h2] at h; simp at h
  · simp
/-- A text with its length ahead of it. -/
def Cd.Rd.txt (s : List UInt8) (size most : Nat) (r : Cd.Rd) : List UInt8 × Cd.Rd :=
  let k := r.num s size
  let r1 := if most < k.1 then k.2.no 14 r.pos else k.2
  r1.text s k.1

theorem clone_c (t : List UInt8) (w : World) (ht : t.length ≤ 65535) :
    Calls Tryd.prog 41 #[.string ⟨t.toArray⟩] w fun e w' => e = .returned (.string ⟨t.toArray⟩) ∧ Below w.heap.size w w' := by
  have hsz := size_mk t
  go_enter Tryd.func41, Tryd.ntmps41
  go_wp2_with (first
    | (go_at_call 54; refine (Tryd.stringslite_Clone _ _ (by omega)).mono ?_; rintro e w1 ⟨rfl, hb⟩)
    | go_in)
  go_ret
  exact ⟨rfl, hb⟩

set_option maxHeartbeats 2000000 in
theorem dflag_c (w : World) (b : Nat) (s : List UInt8) (p : Nat) (h : PM w b s p) (hs : s.length ≤ 4000000) (hp : p ≤ s.length) :
    Calls Tryd.prog 43 #[ptrV b] w fun e w' => e = .returned (.tuple #[.bool (Cd.Rd.flag s (Cd.Rd.at_ p)).1, errV (Cd.Rd.flag s (Cd.Rd.at_ p)).2]) ∧ PM w' b s (Cd.Rd.flag s (Cd.Rd.at_ p)).2.pos ∧ w.grownBy w' (some b) := by
  obtain ⟨c0, c1, hf⟩ := h.cells
  have HN := hid (number_c w b s p 1 h hs hp (by omega))
  have hlt := Cd.num_one_lt s (Cd.Rd.at_ p)
  have HS : Hid (Cd.sgn (Cd.Rd.num s 1 (Cd.Rd.at_ p)).1 = ((Cd.Rd.num s 1 (Cd.Rd.at_ p)).1 : Int)) := Cd.sgn_small (by omega)
  rw [HS.out] at HN
  unfold NmPost at HN
  have HFl : Hid (Cd.Rd.flag s (Cd.Rd.at_ p) = ((Cd.Rd.num s 1 (Cd.Rd.at_ p)).1 == 1, if 1 < (Cd.Rd.num s 1 (Cd.Rd.at_ p)).1 then (Cd.Rd.num s 1 (Cd.Rd.at_ p)).2.no 14 ((Cd.Rd.num s 1 (Cd.Rd.at_ p)).2.pos - 1) else (Cd.Rd.num s 1 (Cd.Rd.at_ p)).2)) := rfl
  have hok := num_fa s 1 p
  have hbd := num_bad s 1 p
  clear h HS
  generalize Cd.Rd.num s 1 (Cd.Rd.at_ p) = vr at HN hlt HFl hok hbd
  obtain ⟨v, r⟩ := vr
  dsimp only at HN hlt HFl hok hbd
  unfold ptrV at HN ⊢
  by_cases hr : r.fk = 0
  · obtain rfl := hok hr
    rw [errV_ok hr] at HN
    clear hok hbd hr
    by_cases hv : 1 < v
    · have hv2 : (1 : Int) < v := by omega
      have HP : Hid (Cd.Rd.flag s (Cd.Rd.at_ p) = (false, ⟨p + 1, 14, p⟩)) := by
        rw [Hid, HFl.out, if_pos hv]
        have : (v == 1) = false := by simp; omega
        rw [this]
        rfl
      go_enter Tryd.func43, Tryd.ntmps43
      go_wp2_with (first
        | (go_at_call 40; refine HN.out.mono ?_; clear HN; rintro en w1 ⟨rfl, h1, hg1⟩
           replace h1 := hid h1
           replace hg1 := hid hg1)
        | (go_at_call 39; refine (broken_c _ _ _).mono ?_; rintro en w9 ⟨rfl, hw9⟩; obtain rfl := hw9.symm)
        | go_in)
      rw [HP.out]
      exact bodyPost_ret (v := .tuple #[.bool false, .iface 45 (.agg #[.int .i64 14, .int .i64 p])]) (by simp [results, Tryd.results43, go_sem]) rfl ⟨by rw [errV_no (by simp)]; rfl, h1.out, hg1.out⟩
    · have hv2 : ¬ (1 : Int) < v := by omega
      have HP : Hid (Cd.Rd.flag s (Cd.Rd.at_ p) = (v == 1, Cd.Rd.at_ (p + 1))) := by rw [Hid, HFl.out, if_neg hv]
      have hq : ((v : Int) == 1) = (v == 1) := by rw [Bool.eq_iff_iff]; simp; omega
      go_enter Tryd.func43, Tryd.ntmps43
      go_wp2_with (first
        | (go_at_call 40; refine HN.out.mono ?_; clear HN; rintro en w1 ⟨rfl, h1, hg1⟩
           replace h1 := hid h1
           replace hg1 := hid hg1)
        | go_in)
      all_goals
        rw [HP.out]
        refine bodyPost_ret (v := .tuple #[.bool (v == 1), .nilIface]) (by simp [results, Tryd.results43, go_sem]; try simp_all) rfl ⟨by rw [errV_ok rfl], h1.out, hg1.out⟩
  · have hb := hbd hr
    simp only [Prod.mk.injEq] at hb
    obtain ⟨rfl, rfl⟩ := hb
    have HP : Hid (Cd.Rd.flag s (Cd.Rd.at_ p) = (false, ⟨p, 13, s.length⟩)) := by
      rw [Hid, HFl.out, if_neg (by omega)]
      rfl
    rw [errV_no hr] at HN
    clear hok hbd hr
    go_enter Tryd.func43, Tryd.ntmps43
    go_wp2_with (first
      | (go_at_call 40; refine HN.out.mono ?_; clear HN; rintro en w1 ⟨rfl, h1, hg1⟩
         replace h1 := hid h1
         replace hg1 := hid hg1)
      | go_in)
    rw [HP.out]
    exact bodyPost_ret (v := .tuple #[.bool false, .iface 45 (.agg #[.int .i64 13, .int .i64 s.length])]) (by simp [results, Tryd.results43, go_sem]) rfl ⟨by rw [errV_no (by simp)]; rfl, h1.out, hg1.out⟩
end Go.Proofs.YticmoofjjikefaaDoor
