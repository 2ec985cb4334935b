/-
  The program's reader in memory: text, end, head.
-/
import Derived.Test.YticmoofjjikefaaDoorRb
set_option linter.unusedVariables false
set_option linter.unusedSimpArgs false
namespace Go.Proofs.YticmoofjjikefaaDoor
open Go.RowKit Go.Lib

theorem PM.keep {w w' : World} {b : Nat} {s : List UInt8} {p : Nat} (h : PM w b s p) (hb : Below w.heap.size w w') : PM w' b s p := (hb.block b h.lt).trans h
theorem bg {w w' : World} {o : Option Nat} (h : Below w.heap.size w w') : w.grownBy w' o := ⟨h.os, h.tape, h.output, h.size, fun i hi _ => h.block i hi⟩
theorem num_lt2 (s : List UInt8) (p n : Nat) (hn : n ≤ 2) : (Cd.Rd.num s n (Cd.Rd.at_ p)).1 ≤ 65535 := by
  unfold Cd.Rd.num
  split
  · have := Cd.num_lt ((s.drop (Cd.Rd.at_ p).pos).take n)
    have h2 : ((s.drop (Cd.Rd.at_ p).pos).take n).length ≤ 2 := by simp; omega
    have h3 : 256 ^ ((s.drop (Cd.Rd.at_ p).pos).take n).length ≤ 256 ^ 2 := Nat.pow_le_pow_right (by decide) h2
    dsimp only
    omega
  · simp
theorem text_len (s : List UInt8) (p n : Nat) (hn : n ≤ 65535) : (Cd.Rd.text s n (Cd.Rd.at_ p)).1.length ≤ 65535 := by
  unfold Cd.Rd.text
  split
  · simp; omega
  · simp

set_option maxHeartbeats 4000000 in
theorem dtext_c (w : World) (b : Nat) (s : List UInt8) (p size most : Nat) (h : PM w b s p) (hs : s.length ≤ 4000000) (hp : p ≤ s.length) (hz : size ≤ 2) (hm : most ≤ 65535) :
    Calls Tryd.prog 19 #[ptrV b, .int .i64 size, .int .i64 most] w (TkPost w b s (Cd.Rd.txt s size most (Cd.Rd.at_ p)).1 (Cd.Rd.txt s size most (Cd.Rd.at_ p)).2) := by
  obtain ⟨c0, c1, hf⟩ := h.cells
  have HN := hid (number_c w b s p size h hs hp (by omega))
  have hlt := num_lt2 s p size hz
  have hle := num_le s size p hp
  have HS : Hid (Cd.sgn (Cd.Rd.num s size (Cd.Rd.at_ p)).1 = ((Cd.Rd.num s size (Cd.Rd.at_ p)).1 : Int)) := Cd.sgn_small (by omega)
  rw [HS.out] at HN
  unfold NmPost at HN
  have HFl : Hid (Cd.Rd.txt s size most (Cd.Rd.at_ p) = (if most < (Cd.Rd.num s size (Cd.Rd.at_ p)).1 then (Cd.Rd.num s size (Cd.Rd.at_ p)).2.no 14 p else (Cd.Rd.num s size (Cd.Rd.at_ p)).2).text s (Cd.Rd.num s size (Cd.Rd.at_ p)).1) := rfl
  have hok := num_fa s size p
  have hbd := num_bad s size p
  clear h HS
  generalize Cd.Rd.num s size (Cd.Rd.at_ p) = vr at HN hlt HFl hok hbd hle
  obtain ⟨v, r⟩ := vr
  dsimp only at HN hlt HFl hok hbd hle
  unfold ptrV at HN ⊢
  by_cases hr : r.fk = 0
  · obtain rfl := hok hr
    rw [errV_ok hr] at HN
    clear hok hbd hr
    by_cases hv : most < v
    · have hv2 : (most : Int) < v := by omega
      have HP : Hid (Cd.Rd.txt s size most (Cd.Rd.at_ p) = ([], ⟨p + size, 14, p⟩)) := by
        rw [Hid, HFl.out, if_pos hv]
        unfold Cd.Rd.no Cd.Rd.at_ Cd.Rd.text
        rw [if_pos rfl, if_neg (fun h => by have := h.1; simp at this)]
        simp [Cd.Rd.no]
      go_enter Tryd.func19, Tryd.ntmps19
      go_wp2_with (first
        | (go_at_call 40; refine HN.out.mono ?_; clear HN; rintro en w1 ⟨rfl, h1, hg1⟩
           replace h1 := hid h1
           replace hg1 := hid hg1)
        | (go_at_call 39; refine (broken_c _ _ _).mono ?_; rintro en w9 ⟨rfl, hw9⟩; obtain rfl := hw9.symm)
        | go_in)
      rw [HP.out]
      exact bodyPost_ret (v := .tuple #[.string ⟨#[]⟩, .iface 45 (.agg #[.int .i64 14, .int .i64 p])]) (by simp [results, Tryd.results19, go_sem]) rfl ⟨by rw [errV_no (by simp)]; rfl, h1.out, hg1.out⟩
    · have hv2 : ¬ (most : Int) < v := by omega
      have HP : Hid (Cd.Rd.txt s size most (Cd.Rd.at_ p) = Cd.Rd.text s v (Cd.Rd.at_ (p + size))) := by rw [Hid, HFl.out, if_neg hv]
      have HT := hid (fun (W : World) (hw : PM W b s (p + size)) => take_c W b s (p + size) v hw hs hle (by omega))
      have hln := text_len s (p + size) v (by omega)
      generalize Cd.Rd.text s v (Cd.Rd.at_ (p + size)) = tr at HT HP hln
      obtain ⟨t, r2⟩ := tr
      dsimp only at HT HP hln
      unfold ptrV at HT
      have HC := hid (fun W => clone_c t W hln)
      go_enter Tryd.func19, Tryd.ntmps19
      go_wp2_with (first
        | (go_at_call 40; refine HN.out.mono ?_; clear HN; rintro en w1 ⟨rfl, h1, hg1⟩
           replace h1 := hid h1
           replace hg1 := hid hg1)
        | (go_at_call 38; refine (HT.out _ h1.out).mono ?_; clear HT; rintro en w2 ⟨rfl, h2, hg2⟩
           generalize hev : errV r2 = ev
           replace hev := hid hev
           replace h2 := hid h2
           replace hg2 := hid hg2)
        | (go_at_call 41; refine (HC.out _).mono ?_; clear HC; rintro en w3 ⟨rfl, h3⟩
           replace h3 := hid h3)
        | go_in)
      rw [HP.out]
      exact bodyPost_ret (v := .tuple #[.string ⟨t.toArray⟩, ev]) (by simp [results, Tryd.results19, go_sem]) rfl ⟨by rw [← hev.out], h2.out.keep h3.out, grown_trans (grown_trans hg1.out hg2.out) (bg h3.out)⟩
  · have hb := hbd hr
    simp only [Prod.mk.injEq] at hb
    obtain ⟨rfl, rfl⟩ := hb
    have HP : Hid (Cd.Rd.txt s size most (Cd.Rd.at_ p) = ([], ⟨p, 13, s.length⟩)) := by
      rw [Hid, HFl.out, if_neg (by omega)]
      unfold Cd.Rd.text
      rw [if_neg (fun h => by have := h.1; simp at this)]
      simp [Cd.Rd.no]
    rw [errV_no hr] at HN
    clear hok hbd hr
    go_enter Tryd.func19, Tryd.ntmps19
    go_wp2_with (first
      | (go_at_call 40; refine HN.out.mono ?_; clear HN; rintro en w1 ⟨rfl, h1, hg1⟩
         replace h1 := hid h1
         replace hg1 := hid hg1)
      | go_in)
    rw [HP.out]
    exact bodyPost_ret (v := .tuple #[.string ⟨#[]⟩, .iface 45 (.agg #[.int .i64 13, .int .i64 s.length])]) (by simp [results, Tryd.results19, go_sem]) rfl ⟨by rw [errV_no (by simp)]; rfl, h1.out, hg1.out⟩
end Go.Proofs.YticmoofjjikefaaDoor
