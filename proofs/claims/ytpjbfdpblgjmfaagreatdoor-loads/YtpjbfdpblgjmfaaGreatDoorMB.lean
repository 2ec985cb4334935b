/-
  The program's reader in memory: text, flag.
  The program's reader in memory: text, end, head.
-/
import Derived.Test.YtpjbfdpblgjmfaaGreatDoorRa
import Derived.Test.YtpjbfdpblgjmfaaGreatDoorSh
set_option linter.unusedVariables false
set_option linter.unusedSimpArgs false
namespace Go.Proofs.YtpjbfdpblgjmfaaGreatDoor
open Go.RowKit Go.Lib

theorem num_le (s : List UInt8) (n p : Nat) (hp : p ≤ s.length) : (Cd.Rd.num s n (Cd.Rd.at_ p)).2.pos ≤ s.length := by
  unfold Cd.Rd.num Cd.Rd.no Cd.Rd.at_
  split
  · rename_i h; exact h.2
  · simp; exact hp
theorem text_le (s : List UInt8) (n p : Nat) (hp : p ≤ s.length) : (Cd.Rd.text s n (Cd.Rd.at_ p)).2.pos ≤ s.length := by
  unfold Cd.Rd.text Cd.Rd.no Cd.Rd.at_
  split
  · rename_i h; exact h.2
  · simp; exact hp
theorem rd_ok {r : Cd.Rd} (h : r.fk = 0) (ha : r.fa = 0) : r = Cd.Rd.at_ r.pos := by
  obtain ⟨a, b, c⟩ := r
  simp at h ha
  subst h ha
  rfl
theorem num_fa (s : List UInt8) (n p : Nat) (h : (Cd.Rd.num s n (Cd.Rd.at_ p)).2.fk = 0) : (Cd.Rd.num s n (Cd.Rd.at_ p)).2 = Cd.Rd.at_ (p + n) := by
  unfold Cd.Rd.num Cd.Rd.no Cd.Rd.at_ at h ⊢
  split
  · rfl
  · rename_i h2
    rw [if_neg h2] at h
    simp at h
theorem num_bad (s : List UInt8) (n p : Nat) (h : (Cd.Rd.num s n (Cd.Rd.at_ p)).2.fk ≠ 0) : Cd.Rd.num s n (Cd.Rd.at_ p) = (0, ⟨p, 13, s.length⟩) := by
  unfold Cd.Rd.num Cd.Rd.no Cd.Rd.at_ at h ⊢
  split
  · rename_i h2; rw [if_pos h2] at h; simp at h
  · simp
/-- A text with its length ahead of it. -/
def Cd.Rd.txt (s : List UInt8) (size most : Nat) (r : Cd.Rd) : List UInt8 × Cd.Rd :=
  let k := r.num s size
  let r1 := if most < k.1 then k.2.no 14 r.pos else k.2
  r1.text s k.1

theorem clone_c (t : List UInt8) (w : World) (ht : t.length ≤ 65535) :
    Calls Tryz.prog 84 #[.string ⟨t.toArray⟩] w fun e w' => e = .returned (.string ⟨t.toArray⟩) ∧ Below w.heap.size w w' := by
  have hsz := size_mk t
  go_enter Tryz.func84, Tryz.ntmps84
  go_wp2_with (first
    | (go_at_call 103; refine (Tryz.stringslite_Clone _ _ (by omega)).mono ?_; rintro e w1 ⟨rfl, hb⟩)
    | go_in)
  go_ret
  exact ⟨rfl, hb⟩

set_option maxHeartbeats 2000000 in
theorem dflag_c (w : World) (b : Nat) (s : List UInt8) (p : Nat) (h : PM w b s p) (hs : s.length ≤ 4000000) (hp : p ≤ s.length) :
    Calls Tryz.prog 86 #[ptrV b] w fun e w' => e = .returned (.tuple #[.bool (Cd.Rd.flag s (Cd.Rd.at_ p)).1, errV (Cd.Rd.flag s (Cd.Rd.at_ p)).2]) ∧ PM w' b s (Cd.Rd.flag s (Cd.Rd.at_ p)).2.pos ∧ w.grownBy w' (some b) := by
  obtain ⟨c0, c1, hf⟩ := h.cells
  have HN := hid (number_c w b s p 1 h hs hp (by omega))
  have hlt := Cd.num_one_lt s (Cd.Rd.at_ p)
  have HS : Hid (Cd.sgn (Cd.Rd.num s 1 (Cd.Rd.at_ p)).1 = ((Cd.Rd.num s 1 (Cd.Rd.at_ p)).1 : Int)) := Cd.sgn_small (by omega)
  rw [HS.out] at HN
  unfold NmPost at HN
  have HFl : Hid (Cd.Rd.flag s (Cd.Rd.at_ p) = ((Cd.Rd.num s 1 (Cd.Rd.at_ p)).1 == 1, if 1 < (Cd.Rd.num s 1 (Cd.Rd.at_ p)).1 then (Cd.Rd.num s 1 (Cd.Rd.at_ p)).2.no 14 ((Cd.Rd.num s 1 (Cd.Rd.at_ p)).2.pos - 1) else (Cd.Rd.num s 1 (Cd.Rd.at_ p)).2)) := rfl
  have hok := num_fa s 1 p
  have hbd := num_bad s 1 p
  clear h HS
  generalize Cd.Rd.num s 1 (Cd.Rd.at_ p) = vr at HN hlt HFl hok hbd
  obtain ⟨v, r⟩ := vr
  dsimp only at HN hlt HFl hok hbd
  unfold ptrV at HN ⊢
  by_cases hr : r.fk = 0
  · obtain rfl := hok hr
    rw [errV_ok hr] at HN
    clear hok hbd hr
    by_cases hv : 1 < v
    · have hv2 : (1 : Int) < v := by omega
      have HP : Hid (Cd.Rd.flag s (Cd.Rd.at_ p) = (false, ⟨p + 1, 14, p⟩)) := by
        rw [Hid, HFl.out, if_pos hv]
        have : (v == 1) = false := by simp; omega
        rw [this]
        rfl
      go_enter Tryz.func86, Tryz.ntmps86
      go_wp2_with (first
        | (go_at_call 83; refine HN.out.mono ?_; clear HN; rintro en w1 ⟨rfl, h1, hg1⟩
           replace h1 := hid h1
           replace hg1 := hid hg1)
        | (go_at_call 82; refine (broken_c _ _ _).mono ?_; rintro en w9 ⟨rfl, hw9⟩; obtain rfl := hw9.symm)
        | go_in)
      rw [HP.out]
      exact bodyPost_ret (v := .tuple #[.bool false, .iface 78 (.agg #[.int .i64 14, .int .i64 p])]) (by simp [results, Tryz.results86, go_sem]) rfl ⟨by rw [errV_no (by simp)]; rfl, h1.out, hg1.out⟩
    · have hv2 : ¬ (1 : Int) < v := by omega
      have HP : Hid (Cd.Rd.flag s (Cd.Rd.at_ p) = (v == 1, Cd.Rd.at_ (p + 1))) := by rw [Hid, HFl.out, if_neg hv]
      have hq : ((v : Int) == 1) = (v == 1) := by rw [Bool.eq_iff_iff]; simp; omega
      go_enter Tryz.func86, Tryz.ntmps86
      go_wp2_with (first
        | (go_at_call 83; refine HN.out.mono ?_; clear HN; rintro en w1 ⟨rfl, h1, hg1⟩
           replace h1 := hid h1
           replace hg1 := hid hg1)
        | go_in)
      all_goals
        rw [HP.out]
        refine bodyPost_ret (v := .tuple #[.bool (v == 1), .nilIface]) (by simp [results, Tryz.results86, go_sem]; try simp_all) rfl ⟨by rw [errV_ok rfl], h1.out, hg1.out⟩
  · have hb := hbd hr
    simp only [Prod.mk.injEq] at hb
    obtain ⟨rfl, rfl⟩ := hb
    have HP : Hid (Cd.Rd.flag s (Cd.Rd.at_ p) = (false, ⟨p, 13, s.length⟩)) := by
      rw [Hid, HFl.out, if_neg (by omega)]
      rfl
    rw [errV_no hr] at HN
    clear hok hbd hr
    go_enter Tryz.func86, Tryz.ntmps86
    go_wp2_with (first
      | (go_at_call 83; refine HN.out.mono ?_; clear HN; rintro en w1 ⟨rfl, h1, hg1⟩
         replace h1 := hid h1
         replace hg1 := hid hg1)
      | go_in)
    rw [HP.out]
    exact bodyPost_ret (v := .tuple #[.bool false, .iface 78 (.agg #[.int .i64 13, .int .i64 s.length])]) (by simp [results, Tryz.results86, go_sem]) rfl ⟨by rw [errV_no (by simp)]; rfl, h1.out, hg1.out⟩
end Go.Proofs.YtpjbfdpblgjmfaaGreatDoor

namespace Go.Proofs.YtpjbfdpblgjmfaaGreatDoor
open Go.RowKit Go.Lib

theorem PM.keep {w w' : World} {b : Nat} {s : List UInt8} {p : Nat} (h : PM w b s p) (hb : Below w.heap.size w w') : PM w' b s p := (hb.block b h.lt).trans h
theorem bg {w w' : World} {o : Option Nat} (h : Below w.heap.size w w') : w.grownBy w' o := ⟨h.os, h.tape, h.output, h.size, fun i hi _ => h.block i hi⟩
theorem num_lt2 (s : List UInt8) (p n : Nat) (hn : n ≤ 2) : (Cd.Rd.num s n (Cd.Rd.at_ p)).1 ≤ 65535 := by
  unfold Cd.Rd.num
  split
  · have := Cd.num_lt ((s.drop (Cd.Rd.at_ p).pos).take n)
    have h2 : ((s.drop (Cd.Rd.at_ p).pos).take n).length ≤ 2 := by simp; omega
    have h3 : 256 ^ ((s.drop (Cd.Rd.at_ p).pos).take n).length ≤ 256 ^ 2 := Nat.pow_le_pow_right (by decide) h2
    dsimp only
    omega
  · simp
theorem text_len (s : List UInt8) (p n : Nat) (hn : n ≤ 65535) : (Cd.Rd.text s n (Cd.Rd.at_ p)).1.length ≤ 65535 := by
  unfold Cd.Rd.text
  split
  · simp; omega
  · simp

set_option maxHeartbeats 4000000 in
theorem dtext_c (w : World) (b : Nat) (s : List UInt8) (p size most : Nat) (h : PM w b s p) (hs : s.length ≤ 4000000) (hp : p ≤ s.length) (hz : size ≤ 2) (hm : most ≤ 65535) :
    Calls Tryz.prog 49 #[ptrV b, .int .i64 size, .int .i64 most] w (TkPost w b s (Cd.Rd.txt s size most (Cd.Rd.at_ p)).1 (Cd.Rd.txt s size most (Cd.Rd.at_ p)).2) := by
  obtain ⟨c0, c1, hf⟩ := h.cells
  have HN := hid (number_c w b s p size h hs hp (by omega))
  have hlt := num_lt2 s p size hz
  have hle := num_le s size p hp
  have HS : Hid (Cd.sgn (Cd.Rd.num s size (Cd.Rd.at_ p)).1 = ((Cd.Rd.num s size (Cd.Rd.at_ p)).1 : Int)) := Cd.sgn_small (by omega)
  rw [HS.out] at HN
  unfold NmPost at HN
  have HFl : Hid (Cd.Rd.txt s size most (Cd.Rd.at_ p) = (if most < (Cd.Rd.num s size (Cd.Rd.at_ p)).1 then (Cd.Rd.num s size (Cd.Rd.at_ p)).2.no 14 p else (Cd.Rd.num s size (Cd.Rd.at_ p)).2).text s (Cd.Rd.num s size (Cd.Rd.at_ p)).1) := rfl
  have hok := num_fa s size p
  have hbd := num_bad s size p
  clear h HS
  generalize Cd.Rd.num s size (Cd.Rd.at_ p) = vr at HN hlt HFl hok hbd hle
  obtain ⟨v, r⟩ := vr
  dsimp only at HN hlt HFl hok hbd hle
  unfold ptrV at HN ⊢
  by_cases hr : r.fk = 0
  · obtain rfl := hok hr
    rw [errV_ok hr] at HN
    clear hok hbd hr
    by_cases hv : most < v
    · have hv2 : (most : Int) < v := by omega
      have HP : Hid (Cd.Rd.txt s size most (Cd.Rd.at_ p) = ([], ⟨p + size, 14, p⟩)) := by
        rw [Hid, HFl.out, if_pos hv]
        unfold Cd.Rd.no Cd.Rd.at_ Cd.Rd.text
        rw [if_pos rfl, if_neg (fun h => by have := h.1; simp at this)]
        simp [Cd.Rd.no]
      go_enter Tryz.func49, Tryz.ntmps49
      go_wp2_with (first
        | (go_at_call 83; refine HN.out.mono ?_; clear HN; rintro en w1 ⟨rfl, h1, hg1⟩
           replace h1 := hid h1
           replace hg1 := hid hg1)
        | (go_at_call 82; refine (broken_c _ _ _).mono ?_; rintro en w9 ⟨rfl, hw9⟩; obtain rfl := hw9.symm)
        | go_in)
      rw [HP.out]
      exact bodyPost_ret (v := .tuple #[.string ⟨#[]⟩, .iface 78 (.agg #[.int .i64 14, .int .i64 p])]) (by simp [results, Tryz.results49, go_sem]) rfl ⟨by rw [errV_no (by simp)]; rfl, h1.out, hg1.out⟩
    · have hv2 : ¬ (most : Int) < v := by omega
      have HP : Hid (Cd.Rd.txt s size most (Cd.Rd.at_ p) = Cd.Rd.text s v (Cd.Rd.at_ (p + size))) := by rw [Hid, HFl.out, if_neg hv]
      have HT := hid (fun (W : World) (hw : PM W b s (p + size)) => take_c W b s (p + size) v hw hs hle (by omega))
      have hln := text_len s (p + size) v (by omega)
      generalize Cd.Rd.text s v (Cd.Rd.at_ (p + size)) = tr at HT HP hln
      obtain ⟨t, r2⟩ := tr
      dsimp only at HT HP hln
      unfold ptrV at HT
      have HC := hid (fun W => clone_c t W hln)
      go_enter Tryz.func49, Tryz.ntmps49
      go_wp2_with (first
        | (go_at_call 83; refine HN.out.mono ?_; clear HN; rintro en w1 ⟨rfl, h1, hg1⟩
           replace h1 := hid h1
           replace hg1 := hid hg1)
        | (go_at_call 81; refine (HT.out _ h1.out).mono ?_; clear HT; rintro en w2 ⟨rfl, h2, hg2⟩
           generalize hev : errV r2 = ev
           replace hev := hid hev
           replace h2 := hid h2
           replace hg2 := hid hg2)
        | (go_at_call 84; refine (HC.out _).mono ?_; clear HC; rintro en w3 ⟨rfl, h3⟩
           replace h3 := hid h3)
        | go_in)
      rw [HP.out]
      exact bodyPost_ret (v := .tuple #[.string ⟨t.toArray⟩, ev]) (by simp [results, Tryz.results49, go_sem]) rfl ⟨by rw [← hev.out], h2.out.keep h3.out, grown_trans (grown_trans hg1.out hg2.out) (bg h3.out)⟩
  · have hb := hbd hr
    simp only [Prod.mk.injEq] at hb
    obtain ⟨rfl, rfl⟩ := hb
    have HP : Hid (Cd.Rd.txt s size most (Cd.Rd.at_ p) = ([], ⟨p, 13, s.length⟩)) := by
      rw [Hid, HFl.out, if_neg (by omega)]
      unfold Cd.Rd.text
      rw [if_neg (fun h => by have := h.1; simp at this)]
      simp [Cd.Rd.no]
    rw [errV_no hr] at HN
    clear hok hbd hr
    go_enter Tryz.func49, Tryz.ntmps49
    go_wp2_with (first
      | (go_at_call 83; refine HN.out.mono ?_; clear HN; rintro en w1 ⟨rfl, h1, hg1⟩
         replace h1 := hid h1
         replace hg1 := hid hg1)
      | go_in)
    rw [HP.out]
    exact bodyPost_ret (v := .tuple #[.string ⟨#[]⟩, .iface 78 (.agg #[.int .i64 13, .int .i64 s.length])]) (by simp [results, Tryz.results49, go_sem]) rfl ⟨by rw [errV_no (by simp)]; rfl, h1.out, hg1.out⟩
end Go.Proofs.YtpjbfdpblgjmfaaGreatDoor
