/-
  The program's Decode.
  The program's Decode of a text that is not too long.
  What is read has bytes: a code that Decode reads is one that Encode would write (plain).
-/
import Derived.Test.YtpjbfdpblgjmfaaGreatDoorMH
import Derived.Test.YtpjbfdpblgjmfaaGreatDoorDq
import Derived.Test.YtpjbfdpblgjmfaaGreatDoorMF
import Derived.Test.YtpjbfdpblgjmfaaGreatDoorMD
set_option linter.unusedVariables false
set_option linter.unusedSimpArgs false
namespace Go.Proofs.YtpjbfdpblgjmfaaGreatDoor
open Go.RowKit Go.Lib

set_option maxRecDepth 100000 in
set_option maxHeartbeats 8000000 in
theorem cdecode_long (w : World) (s : List UInt8) (hl : 4000000 < s.length) : Calls Tryz.prog 8 #[.string ⟨s.toArray⟩] w fun e w' => DecPost w (⟨[], [], [], []⟩, 1, 0) e w' := by
  have hsz := size_mk s
  have hl2 : (4000000 : Int) < (s.length : Int) := by omega
  go_enter Tryz.func8, Tryz.ntmps8
  go_wp2
  refine bodyPost_ret (v := .tuple #[.agg #[.string ⟨#[]⟩, .slice none 0 0, .slice none 0 0, .slice none 0 0], .agg #[.int .i64 1, .int .i64 0]]) (by simp [results, Tryz.results8, go_sem]) rfl ?_
  exact ⟨_, _, _, rfl, code_nil _, ((Ch.refl _ _).al _).al _⟩
end Go.Proofs.YtpjbfdpblgjmfaaGreatDoor

namespace Go.Proofs.YtpjbfdpblgjmfaaGreatDoor
open Go.RowKit Go.Lib

theorem pm_new (w : World) (s : List UInt8) (x y : Obj) : PM (((w.alloc x).alloc y).alloc (.cells #[.string ⟨s.toArray⟩, .int .i64 0] 72)) (w.heap.size + 1 + 1) s 0 := by
  have e : w.heap.size + 1 + 1 = ((w.alloc x).alloc y).heap.size := by simp
  unfold PM
  rw [e]
  generalize (w.alloc x).alloc y = V
  first | exact heap_alloc_new _ _ | exact (heap_alloc _ _).1 | exact World.alloc_heap_new _ _
/-- The world behind the reader: the two blocks of the answer, the reader's code, the error's variable. -/
structure DecW (w W1 W : World) (x : List UInt8) (vo vh vf : Value) : Prop where
  a : W.heap[w.heap.size]? = some (.cells #[.string ⟨#[]⟩, .slice none 0 0, .slice none 0 0, .slice none 0 0] 38 (0, 0))
  f : W.heap[w.heap.size + 1]? = some (.cells #[.int .i64 0, .int .i64 0] 25 (0, 0))
  c : W.heap[W1.heap.size]? = some (.cells #[.string ⟨x.toArray⟩, vo, vh, vf] 38 (0, 0))
  m : W.heap[W1.heap.size + 1]? = some (.cells #[.int .i64 0, .int .i64 0] 78 (0, 0))
  lt : w.heap.size + 2 < W1.heap.size
  old : Ch (fun _ => False) w W
  keep : ∀ k, k < W1.heap.size → W.heap[k]? = W1.heap[k]?

theorem decW_of {w w1 : World} {s x : List UInt8} {vo vh vf : Value} (hg : (((w.alloc (.cells #[.string ⟨#[]⟩, .slice none 0 0, .slice none 0 0, .slice none 0 0] 38)).alloc (.cells #[.int .i64 0, .int .i64 0] 25)).alloc (.cells #[.string ⟨s.toArray⟩, .int .i64 0] 72)).grownBy w1 (some (w.heap.size + 1 + 1))) :
    DecW w w1 ((w1.alloc (.cells #[.string ⟨x.toArray⟩, vo, vh, vf] 38)).alloc (.cells #[.int .i64 0, .int .i64 0] 78)) x vo vh vf := by
  have hz : w.heap.size + 3 ≤ w1.heap.size := by have := hg.size; simp at this; omega
  have ea : w1.heap[w.heap.size]? = some (.cells #[.string ⟨#[]⟩, .slice none 0 0, .slice none 0 0, .slice none 0 0] 38 (0, 0)) :=
    (hg.block _ (by simp; omega) (by simp; omega)).trans (blk_alloc (blk_alloc (heap_alloc_new _ _)))
  have ef : w1.heap[w.heap.size + 1]? = some (.cells #[.int .i64 0, .int .i64 0] 25 (0, 0)) := by
    refine (hg.block _ (by simp) (by simp)).trans (blk_alloc ?_)
    have e : w.heap.size + 1 = (w.alloc (.cells #[.string ⟨#[]⟩, .slice none 0 0, .slice none 0 0, .slice none 0 0] 38)).heap.size := by simp
    rw [e]
    exact heap_alloc_new _ _
  refine ⟨blk_alloc (blk_alloc ea), blk_alloc (blk_alloc ef), blk_alloc (heap_alloc_new _ _), ?_, by omega, ?_, fun k hk => ?_⟩
  · have e : w1.heap.size + 1 = (w1.alloc (.cells #[.string ⟨x.toArray⟩, vo, vh, vf] 38)).heap.size := by simp
    rw [e]
    exact heap_alloc_new _ _
  · refine (((((Ch.refl (fun _ => False) w).al _).al _).al _).trans (grown_ch hg) (fun k hk => .inr (by omega))).al _ |>.al _
  · rw [Below.heap_alloc _ _ _ (by simp; omega), Below.heap_alloc _ _ _ hk]

theorem ch_dr {w w' : World} {O : Nat → Prop} (h : Ch O w w') : Ch O w w'.drew := ⟨h.size, h.same, h.eo⟩
theorem chn {w w' : World} (h : Ch (fun _ => False) w w') {a : Addr} {v : Value} (ha : w.heap.size ≤ a.block) : Ch (fun _ => False) w (w'.setCell a v) :=
  h.trans (Ch.setCell (O := fun k => k = a.block) w' a v rfl) (fun k hk => .inr (by omega))
theorem dec_fin {w W : World} {a' : Act} {d : Cd.Code × Nat × Nat} {t : List UInt8} {vo vh vf : Value} {k a : Int} (hd : a'.defers = []) (h2 : a'.tmps[2]? = some (.pointer (some ⟨w.heap.size, 0, none⟩))) (h3 : a'.tmps[3]? = some (.pointer (some ⟨w.heap.size + 1, 0, none⟩)))
    (hA : W.heap[w.heap.size]? = some (.cells #[.string ⟨t.toArray⟩, vo, vh, vf] 38 (0, 0))) (hF : W.heap[w.heap.size + 1]? = some (.cells #[.int .i64 k, .int .i64 a] 25 (0, 0)))
    (hs : d.1.shape = t) (hk : (d.2.1 : Int) = k) (ha : (d.2.2 : Int) = a) (hM : CodeM W vo vh vf d.1) (hC : Ch (fun _ => False) w W) : bodyPost Tryz.prog Tryz.f8 (fun e w' => DecPost w d e w') .ret a' W := by
  have c0 : W.cell? ⟨w.heap.size, 0, none⟩ = some (.string ⟨t.toArray⟩) := by simp [World.cell?, hA]
  have c1 : W.cell? ⟨w.heap.size, 1, none⟩ = some vo := by simp [World.cell?, hA]
  have c2 : W.cell? ⟨w.heap.size, 2, none⟩ = some vh := by simp [World.cell?, hA]
  have c3 : W.cell? ⟨w.heap.size, 3, none⟩ = some vf := by simp [World.cell?, hA]
  have f0 : W.cell? ⟨w.heap.size + 1, 0, none⟩ = some (.int .i64 k) := by simp [World.cell?, hF]
  have f1 : W.cell? ⟨w.heap.size + 1, 1, none⟩ = some (.int .i64 a) := by simp [World.cell?, hF]
  refine bodyPost_ret (v := .tuple #[.agg #[.string ⟨t.toArray⟩, vo, vh, vf], .agg #[.int .i64 k, .int .i64 a]]) ?_ hd ⟨vo, vh, vf, by rw [hs, hk, ha], hM, hC⟩
  simp [results, Tryz.results8, go_sem, h2, h3, c0, c1, c2, c3, f0, f1]
/-- The world behind errors.As, where it answers yes. -/
def asW (W : World) (o : Nat) (k a : Int) : World := (((((W.alloc (.cells #[.pointer (some ⟨o, 0, none⟩)] 80)).alloc (.cells #[.pointer (some ⟨1, 80, none⟩), .pointer (some ⟨W.heap.size, 0, none⟩), .int .u64 150] 153)).alloc (.cells #[.pointer (some ⟨1, 80, none⟩), .pointer (some ⟨W.heap.size, 0, none⟩), .int .u64 150] 153)).alloc (.cells #[.int .i64 k, .int .i64 a] 78)).setCell ⟨o, 0, none⟩ (.int .i64 k)).setCell ⟨o, 1, none⟩ (.int .i64 a)
theorem decW_as {w w1 W : World} {x : List UInt8} {vo vh vf : Value} {k a : Int} (D : DecW w w1 W x vo vh vf) :
    (asW W (w1.heap.size + 1) k a).heap[w.heap.size]? = some (.cells #[.string ⟨#[]⟩, .slice none 0 0, .slice none 0 0, .slice none 0 0] 38 (0, 0)) ∧ (asW W (w1.heap.size + 1) k a).heap[w.heap.size + 1]? = some (.cells #[.int .i64 0, .int .i64 0] 25 (0, 0)) ∧ (asW W (w1.heap.size + 1) k a).heap[w1.heap.size + 1]? = some (.cells #[.int .i64 k, .int .i64 a] 78 (0, 0)) ∧ Ch (fun _ => False) w (asW W (w1.heap.size + 1) k a) := by
  have hlt := D.lt
  unfold asW
  refine ⟨blk_other (blk_other (blk_alloc (blk_alloc (blk_alloc (blk_alloc D.a)))) (by simp; omega)) (by simp; omega), blk_other (blk_other (blk_alloc (blk_alloc (blk_alloc (blk_alloc D.f)))) (by simp; omega)) (by simp; omega), blk_set (blk_set (blk_alloc (blk_alloc (blk_alloc (blk_alloc D.m))))), ?_⟩
  exact chn (chn ((((D.old.al _).al _).al _).al _) (by simp; omega)) (by simp; omega)

set_option maxRecDepth 100000 in
set_option maxHeartbeats 8000000 in
theorem cdecode_ok (w : World) (s : List UInt8) (hs : s.length ≤ 4000000) (q : Cd.Code × Cd.Rd) (hq : Cd.Rd.code s (Cd.Rd.head s 3 (Cd.Rd.at_ 3)) = q) (h0 : q.2.fk = 0) : Calls Tryz.prog 8 #[.string ⟨s.toArray⟩] w fun e w' => DecPost w (q.1, 0, 0) e w' := by
  have hsz := size_mk s
  have hl2 : ¬ ((4000000 : Int) < (s.length : Int)) := by omega
  have HC := dcode_c (((w.alloc (.cells #[.string ⟨#[]⟩, .slice none 0 0, .slice none 0 0, .slice none 0 0] 38)).alloc (.cells #[.int .i64 0, .int .i64 0] 25)).alloc (.cells #[.string ⟨s.toArray⟩, .int .i64 0] 72)) (w.heap.size + 1 + 1) s (pm_new w s _ _) hs
  rw [hq] at HC
  unfold CdPost at HC
  rw [errV_ok h0] at HC
  go_enter Tryz.func8, Tryz.ntmps8
  go_upto_region 6 with (go_at_call 21; refine HC.mono ?_; clear HC; rintro e w1 ⟨t, ao, no, co, ah, nh, ch, af, nf, cf, rfl, hg, hr⟩)
  have D := decW_of (x := t) (vo := .slice ao no co) (vh := .slice ah nh ch) (vf := .slice af nf cf) hg
  clear hg
  generalize ((w1.alloc (.cells #[.string ⟨t.toArray⟩, .slice ao no co, .slice ah nh ch, .slice af nf cf] 38)).alloc (.cells #[.int .i64 0, .int .i64 0] 78)) = W at D ⊢
  obtain ⟨hsh, hcm⟩ := hr h0
  have HCM := hid hcm
  clear hr hcm
  have a0 : W.cell? ⟨w.heap.size, 0, none⟩ = some (.string ⟨#[]⟩) := by simp [World.cell?, D.a]
  have a1 : W.cell? ⟨w.heap.size, 1, none⟩ = some (.slice none 0 0) := by simp [World.cell?, D.a]
  have a2 : W.cell? ⟨w.heap.size, 2, none⟩ = some (.slice none 0 0) := by simp [World.cell?, D.a]
  have a3 : W.cell? ⟨w.heap.size, 3, none⟩ = some (.slice none 0 0) := by simp [World.cell?, D.a]
  have af_ : ∀ i, W.frozen? ⟨w.heap.size, i, none⟩ = false := fun i => by simp [World.frozen?, D.a]
  have f0 : W.cell? ⟨w.heap.size + 1, 0, none⟩ = some (.int .i64 0) := by simp [World.cell?, D.f]
  have f1 : W.cell? ⟨w.heap.size + 1, 1, none⟩ = some (.int .i64 0) := by simp [World.cell?, D.f]
  have ff : ∀ i, W.frozen? ⟨w.heap.size + 1, i, none⟩ = false := fun i => by simp [World.frozen?, D.f]
  have c0 : W.cell? ⟨w1.heap.size, 0, none⟩ = some (.string ⟨t.toArray⟩) := by simp [World.cell?, D.c]
  have c1 : W.cell? ⟨w1.heap.size, 1, none⟩ = some (.slice ao no co) := by simp [World.cell?, D.c]
  have c2 : W.cell? ⟨w1.heap.size, 2, none⟩ = some (.slice ah nh ch) := by simp [World.cell?, D.c]
  have c3 : W.cell? ⟨w1.heap.size, 3, none⟩ = some (.slice af nf cf) := by simp [World.cell?, D.c]
  have DD := hid D
  have hlt := D.lt
  clear D
  go_wp2_with (go_at_call 22; refine (asNo _ _).mono ?_; rintro e w9 ⟨rfl, hw9⟩; obtain rfl := hw9.symm)
  have D := DD.out
  refine dec_fin (w := w) (d := (q.1, 0, 0)) rfl rfl rfl ?_ ?_ hsh rfl rfl (HCM.out _ (fun k h1 h2 => ?_)) ?_
  · exact blk_other (blk_other (blk_set (blk_set (blk_set (blk_set D.a)))) (by simp)) (by simp)
  · exact blk_set (blk_set (blk_other (blk_other (blk_other (blk_other D.f (by simp)) (by simp)) (by simp)) (by simp)))
  · simp at h1
    rw [Below.heap_setCell _ _ _ k (by dsimp only; omega), Below.heap_setCell _ _ _ k (by dsimp only; omega), Below.heap_setCell _ _ _ k (by dsimp only; omega), Below.heap_setCell _ _ _ k (by dsimp only; omega), Below.heap_setCell _ _ _ k (by dsimp only; omega), Below.heap_setCell _ _ _ k (by dsimp only; omega)]
    exact D.keep k h2
  · exact chn (chn (chn (chn (chn (chn D.old (by simp)) (by simp)) (by simp)) (by simp)) (by simp)) (by simp)
set_option maxRecDepth 100000 in
set_option maxHeartbeats 8000000 in
theorem cdecode_no (w : World) (hg0 : w.cell? ⟨0, 0, none⟩ = some (.iface 214 (.agg #[.pointer (some ⟨1, 74, none⟩)]))) (s : List UInt8) (hs : s.length ≤ 4000000) (q : Cd.Code × Cd.Rd) (hq : Cd.Rd.code s (Cd.Rd.head s 3 (Cd.Rd.at_ 3)) = q) (h0 : q.2.fk ≠ 0) : Calls Tryz.prog 8 #[.string ⟨s.toArray⟩] w fun e w' => DecPost w (⟨[], [], [], []⟩, q.2.fk, q.2.fa) e w' := by
  have hsz := size_mk s
  have hl2 : ¬ ((4000000 : Int) < (s.length : Int)) := by omega
  have HC := dcode_c (((w.alloc (.cells #[.string ⟨#[]⟩, .slice none 0 0, .slice none 0 0, .slice none 0 0] 38)).alloc (.cells #[.int .i64 0, .int .i64 0] 25)).alloc (.cells #[.string ⟨s.toArray⟩, .int .i64 0] 72)) (w.heap.size + 1 + 1) s (pm_new w s _ _) hs
  rw [hq] at HC
  unfold CdPost at HC
  rw [errV_no h0] at HC
  have HG0 := hid hg0
  clear hg0
  go_enter Tryz.func8, Tryz.ntmps8
  go_upto_region 6 with (go_at_call 21; refine HC.mono ?_; clear HC; rintro e w1 ⟨t, ao, no, co, ah, nh, ch, af, nf, cf, rfl, hg, hr⟩)
  have D := decW_of (x := t) (vo := .slice ao no co) (vh := .slice ah nh ch) (vf := .slice af nf cf) hg
  clear hg hr
  generalize ((w1.alloc (.cells #[.string ⟨t.toArray⟩, .slice ao no co, .slice ah nh ch, .slice af nf cf] 38)).alloc (.cells #[.int .i64 0, .int .i64 0] 78)) = W at D ⊢
  have hw0 : 0 < w.heap.size := by
    have h := HG0.out
    rcases Nat.eq_zero_or_pos w.heap.size with h0 | h1
    · simp [World.cell?, h0] at h
    · exact h1
  have hgW : W.cell? ⟨0, 0, none⟩ = some (.iface 214 (.agg #[.pointer (some ⟨1, 74, none⟩)])) := by
    rw [World.cell?_of_block (D.old.same 0 hw0 (fun h => h))]
    exact HG0.out
  have HA := asYes (q.2.fk : Nat) (q.2.fa : Nat) (w1.heap.size + 1) _ _ W hgW D.m
  have hE := decW_as (k := (q.2.fk : Nat)) (a := (q.2.fa : Nat)) D
  have hlt := D.lt
  clear D hgW
  change Calls _ _ _ _ (fun ev w' => ev = .returned (.bool true) ∧ w' = asW W (w1.heap.size + 1) (q.2.fk : Nat) (q.2.fa : Nat)) at HA
  generalize asW W (w1.heap.size + 1) (q.2.fk : Nat) (q.2.fa : Nat) = W2 at HA hE
  obtain ⟨eA, eF, eM, eC⟩ := hE
  have a0 : W2.cell? ⟨w.heap.size, 0, none⟩ = some (.string ⟨#[]⟩) := by simp [World.cell?, eA]
  have a1 : W2.cell? ⟨w.heap.size, 1, none⟩ = some (.slice none 0 0) := by simp [World.cell?, eA]
  have a2 : W2.cell? ⟨w.heap.size, 2, none⟩ = some (.slice none 0 0) := by simp [World.cell?, eA]
  have a3 : W2.cell? ⟨w.heap.size, 3, none⟩ = some (.slice none 0 0) := by simp [World.cell?, eA]
  have af_ : ∀ i, W2.frozen? ⟨w.heap.size, i, none⟩ = false := fun i => by simp [World.frozen?, eA]
  have f0 : W2.cell? ⟨w.heap.size + 1, 0, none⟩ = some (.int .i64 0) := by simp [World.cell?, eF]
  have f1 : W2.cell? ⟨w.heap.size + 1, 1, none⟩ = some (.int .i64 0) := by simp [World.cell?, eF]
  have ff : ∀ i, W2.frozen? ⟨w.heap.size + 1, i, none⟩ = false := fun i => by simp [World.frozen?, eF]
  have c0 : W2.cell? ⟨w1.heap.size + 1, 0, none⟩ = some (.int .i64 (q.2.fk : Nat)) := by simp [World.cell?, eM]
  have c1 : W2.cell? ⟨w1.heap.size + 1, 1, none⟩ = some (.int .i64 (q.2.fa : Nat)) := by simp [World.cell?, eM]
  replace eA := hid eA
  replace eF := hid eF
  replace eM := hid eM
  replace eC := hid eC
  go_wp2_with (go_at_call 22; refine HA.mono ?_; clear HA; rintro e w9 ⟨rfl, rfl⟩)
  go_region
  all_goals go_wp2
  all_goals refine dec_fin (w := w) (d := (⟨[], [], [], []⟩, q.2.fk, q.2.fa)) rfl rfl rfl (blk_dr (blk_other (blk_other (blk_set (blk_set (blk_set (blk_set eA.out)))) (by simp)) (by simp))) (blk_dr (blk_set (blk_set (blk_other (blk_other (blk_other (blk_other eF.out (by simp)) (by simp)) (by simp)) (by simp))))) rfl rfl rfl (code_nil _) ?_
  all_goals exact ch_dr (chn (chn (chn (chn (chn (chn eC.out (by simp)) (by simp)) (by simp)) (by simp)) (by simp)) (by simp))
/-- The program's Decode, of every text. -/
theorem cdecode_any (w : World) (hg0 : w.cell? ⟨0, 0, none⟩ = some (.iface 214 (.agg #[.pointer (some ⟨1, 74, none⟩)]))) (s : List UInt8) : Calls Tryz.prog 8 #[.string ⟨s.toArray⟩] w fun e w' => DecPost w (Cd.dec s) e w' := by
  by_cases hl : 4000000 < s.length
  · have e : Cd.dec s = (⟨[], [], [], []⟩, 1, 0) := by unfold Cd.dec; rw [if_pos hl]
    rw [e]
    exact cdecode_long w s hl
  · obtain ⟨q, hq⟩ : ∃ q, Cd.Rd.code s (Cd.Rd.head s 3 (Cd.Rd.at_ 3)) = q := ⟨_, rfl⟩
    have e : Cd.dec s = (if q.2.fk = 0 then (q.1, 0, 0) else (⟨[], [], [], []⟩, q.2.fk, q.2.fa)) := by
      unfold Cd.dec
      rw [if_neg hl, show (⟨3, 0, 0⟩ : Cd.Rd) = Cd.Rd.at_ 3 from rfl, hq]
    rw [e]
    have hl2 : s.length ≤ 4000000 := Nat.le_of_not_lt hl
    by_cases h0 : q.2.fk = 0
    · rw [if_pos h0]
      exact cdecode_ok w s hl2 q hq h0
    · rw [if_neg h0]
      exact cdecode_no w hg0 s hl2 q hq h0
end Go.Proofs.YtpjbfdpblgjmfaaGreatDoor

namespace Go.Proofs.YtpjbfdpblgjmfaaGreatDoor

namespace Cd
theorem opsL_len (s : List UInt8) (n : Nat) (r : Rd) : (Rd.opsL s n r).1.length ≤ n := by
  induction n generalizing r with
  | zero => simp [Rd.opsL]
  | succ n ih =>
    unfold Rd.opsL
    split
    · simp only [List.length_cons]
      exact Nat.succ_le_succ (ih _)
    · simp
theorem intsL_len (s : List UInt8) (n : Nat) (r : Rd) : (Rd.intsL s n r).1.length ≤ n := by
  induction n generalizing r with
  | zero => simp [Rd.intsL]
  | succ n ih =>
    unfold Rd.intsL
    split
    · simp only [List.length_cons]
      exact Nat.succ_le_succ (ih _)
    · simp
theorem hansL_len (s : List UInt8) (n : Nat) (r : Rd) : (Rd.hansL s n r).1.length ≤ n ∧ ∀ h ∈ (Rd.hansL s n r).1, h.ops.length ≤ 65535 := by
  induction n generalizing r with
  | zero => simp [Rd.hansL]
  | succ n ih =>
    unfold Rd.hansL
    split
    · obtain ⟨h1, h2⟩ := ih (Rd.han s r).2
      refine ⟨by simp only [List.length_cons]; exact Nat.succ_le_succ h1, fun h hh => ?_⟩
      rcases List.mem_cons.1 hh with e | e
      · subst e
        have a := intsL_len s ((r.flag s).2.num s 1).1 ((r.flag s).2.num s 1).2
        have b := num_one_lt s (r.flag s).2
        unfold Rd.han
        dsimp only
        omega
      · exact h2 h e
    · simp
theorem insL_len (s : List UInt8) (n : Nat) (r : Rd) : (Rd.insL s n r).1.length ≤ n := by
  induction n generalizing r with
  | zero => simp [Rd.insL]
  | succ n ih =>
    unfold Rd.insL
    split
    · simp only [List.length_cons]
      exact Nat.succ_le_succ (ih _)
    · simp
theorem funsL_len (s : List UInt8) (n : Nat) (r : Rd) : (Rd.funsL s n r).1.length ≤ n ∧ ∀ h ∈ (Rd.funsL s n r).1, h.ins.length ≤ 65535 := by
  induction n generalizing r with
  | zero => simp [Rd.funsL]
  | succ n ih =>
    unfold Rd.funsL
    split
    · obtain ⟨h1, h2⟩ := ih (Rd.fn s r).2
      refine ⟨by simp only [List.length_cons]; exact Nat.succ_le_succ h1, fun h hh => ?_⟩
      rcases List.mem_cons.1 hh with e | e
      · subst e
        have a := insL_len s (((r.num s 2).2.num s 2).2.num s 2).1 (((r.num s 2).2.num s 2).2.num s 2).2
        have b := num_two_lt s ((r.num s 2).2.num s 2).2
        unfold Rd.fn
        dsimp only
        omega
      · exact h2 h e
    · simp
theorem text_len (s : List UInt8) (n : Nat) (r : Rd) : (r.text s n).1.length ≤ n := by
  unfold Rd.text
  split
  · simp; omega
  · simp
theorem opsL_ok (s : List UInt8) (n : Nat) (r : Rd) : ∀ o ∈ (Rd.opsL s n r).1, opOk o = true := by
  induction n generalizing r with
  | zero => simp [Rd.opsL]
  | succ n ih =>
    unfold Rd.opsL
    split
    · intro o ho
      dsimp only at ho
      rcases List.mem_cons.1 ho with e | e
      · subst e
        unfold opOk
        dsimp only
        refine decide_eq_true ?_
        by_cases h : 20 < (r.num s 1).1
        · rw [if_pos h]
          have hb : ((r.num s 1).2.no 14 ((r.num s 1).2.pos - 1)).fk ≠ 0 := by
            unfold Rd.no
            split
            · simp
            · assumption
          rw [bad_text hb]
          simp
        · rw [if_neg h]
          have := text_len s (r.num s 1).1 (r.num s 1).2
          omega
      · exact ih _ o e
    · simp
theorem intsL_ok (s : List UInt8) (n : Nat) (r : Rd) : ∀ x ∈ (Rd.intsL s n r).1, fits x 255 = true := by
  induction n generalizing r with
  | zero => simp [Rd.intsL]
  | succ n ih =>
    unfold Rd.intsL
    split
    · intro o ho
      dsimp only at ho
      rcases List.mem_cons.1 ho with e | e
      · subst e
        have := num_one_lt s r
        unfold fits
        simp
        omega
      · exact ih _ o e
    · simp
theorem hansL_ok (s : List UInt8) (n : Nat) (r : Rd) : ∀ h ∈ (Rd.hansL s n r).1, hanOk h = true := by
  induction n generalizing r with
  | zero => simp [Rd.hansL]
  | succ n ih =>
    unfold Rd.hansL
    split
    · intro o ho
      dsimp only at ho
      rcases List.mem_cons.1 ho with e | e
      · subst e
        have a := intsL_len s ((r.flag s).2.num s 1).1 ((r.flag s).2.num s 1).2
        have b := num_one_lt s (r.flag s).2
        have c := intsL_ok s ((r.flag s).2.num s 1).1 ((r.flag s).2.num s 1).2
        unfold hanOk Rd.han
        dsimp only
        rw [Bool.and_eq_true]
        exact ⟨decide_eq_true (by omega), List.all_eq_true.2 c⟩
      · exact ih _ o e
    · simp
theorem ins_ok (s : List UInt8) (r : Rd) : insOk (r.ins s).1 = true := by
  have h1 := num_one_lt s r
  have h2 : (r.num s 1).2.fk ≠ 0 → (r.num s 1).1 = 0 := num_fault s 1 r
  have h3 : ∀ q : Rd, ((q.num s 2).1 : Int) ≤ 65535 := fun q => by have := num_two_lt s q; omega
  unfold Rd.ins
  dsimp only
  by_cases h : (r.num s 1).2.fk = 0 ∧ 23 ≤ (r.num s 1).1
  · rw [if_pos h]
    show insOk ⟨0, 0, 0, 0⟩ = true
    decide
  · rw [if_neg h]
    have hop : ((r.num s 1).1 : Int) ≤ 22 := by
      by_cases g : (r.num s 1).2.fk = 0
      · have : ¬ 23 ≤ (r.num s 1).1 := fun hh => h ⟨g, hh⟩
        omega
      · rw [h2 g]; decide
    generalize (r.num s 1).1 = op at hop
    have f0 : fits (op : Int) 22 = true := by unfold fits; simp; omega
    have f1 : ∀ q : Rd, fits ((q.num s 2).1 : Int) 65535 = true := fun q => by have := h3 q; unfold fits; simp; omega
    have f2 : fits 0 65535 = true := by decide
    by_cases g8 : form (op : Int) = 8
    · rw [if_pos g8]
      simp [insOk, f0, f2, g8]
    · rw [if_neg g8]
      by_cases g1 : form (op : Int) = 1
      · rw [if_pos g1]
        simp [insOk, f0, f1, f2, g1]
      · rw [if_neg g1]
        by_cases g2 : form (op : Int) = 2
        · rw [if_pos g2]
          simp [insOk, f0, f1, g2]
        · rw [if_neg g2]
          simp [insOk, f0, f2]
theorem insL_ok (s : List UInt8) (n : Nat) (r : Rd) : ∀ x ∈ (Rd.insL s n r).1, insOk x = true := by
  induction n generalizing r with
  | zero => simp [Rd.insL]
  | succ n ih =>
    unfold Rd.insL
    split
    · intro o ho
      dsimp only at ho
      rcases List.mem_cons.1 ho with e | e
      · subst e
        exact ins_ok s r
      · exact ih _ o e
    · simp
theorem funsL_ok (s : List UInt8) (n : Nat) (r : Rd) : ∀ h ∈ (Rd.funsL s n r).1, funOk h = true := by
  induction n generalizing r with
  | zero => simp [Rd.funsL]
  | succ n ih =>
    unfold Rd.funsL
    split
    · intro o ho
      dsimp only at ho
      rcases List.mem_cons.1 ho with e | e
      · subst e
        have a := insL_len s (((r.num s 2).2.num s 2).2.num s 2).1 (((r.num s 2).2.num s 2).2.num s 2).2
        have b := num_two_lt s ((r.num s 2).2.num s 2).2
        have c := insL_ok s (((r.num s 2).2.num s 2).2.num s 2).1 (((r.num s 2).2.num s 2).2.num s 2).2
        have f1 : ∀ q : Rd, fits ((q.num s 2).1 : Int) 65535 = true := fun q => by have := num_two_lt s q; unfold fits; simp; omega
        unfold funOk Rd.fn
        dsimp only
        rw [f1, f1]
        simp only [Bool.true_and, Bool.and_eq_true]
        exact ⟨decide_eq_true (by omega), List.all_eq_true.2 c⟩
      · exact ih _ o e
    · simp
theorem code_ok (s : List UInt8) (r : Rd) : ok (Rd.code s r).1 = true := by
  unfold Rd.code
  dsimp only
  have d := text_len s (r.num s 2).1 (r.num s 2).2
  have d' := num_two_lt s r
  generalize Rd.text s (r.num s 2).1 (r.num s 2).2 = t at d
  have a := opsL_len s (t.2.num s 1).1 (t.2.num s 1).2
  have a' := num_one_lt s t.2
  have a2 := opsL_ok s (t.2.num s 1).1 (t.2.num s 1).2
  generalize Rd.opsL s (t.2.num s 1).1 (t.2.num s 1).2 = o at a a2
  have b := hansL_len s (o.2.num s 2).1 (o.2.num s 2).2
  have b' := num_two_lt s o.2
  have b2 := hansL_ok s (o.2.num s 2).1 (o.2.num s 2).2
  generalize Rd.hansL s (o.2.num s 2).1 (o.2.num s 2).2 = h at b b2
  have c := funsL_len s (h.2.num s 2).1 (h.2.num s 2).2
  have c' := num_two_lt s h.2
  have c2 := funsL_ok s (h.2.num s 2).1 (h.2.num s 2).2
  generalize Rd.funsL s (h.2.num s 2).1 (h.2.num s 2).2 = f at c c2
  unfold ok counts
  dsimp only
  simp only [Bool.and_eq_true, decide_eq_true_eq, List.all_eq_true]
  exact ⟨⟨⟨⟨⟨⟨by omega, by omega⟩, by omega⟩, by omega⟩, a2⟩, b2⟩, c2⟩
theorem nil_ok : ok ⟨[], [], [], []⟩ = true := by decide
theorem dec_ok (s : List UInt8) : ok (dec s).1 = true := by
  by_cases hl : 4000000 < s.length
  · have e : dec s = (⟨[], [], [], []⟩, 1, 0) := by unfold dec; rw [if_pos hl]
    rw [e]
    exact nil_ok
  · obtain ⟨q, hq⟩ : ∃ q, Rd.code s (Rd.head s 3 (Rd.at_ 3)) = q := ⟨_, rfl⟩
    have e : dec s = (if q.2.fk = 0 then (q.1, 0, 0) else (⟨[], [], [], []⟩, q.2.fk, q.2.fa)) := by
      unfold dec
      rw [if_neg hl, show (⟨3, 0, 0⟩ : Rd) = Rd.at_ 3 from rfl, hq]
    have hs : ok q.1 = true := by rw [← hq]; exact code_ok s _
    rw [e]
    by_cases h0 : q.2.fk = 0
    · rw [if_pos h0]; exact hs
    · rw [if_neg h0]; exact nil_ok
end Cd
end Go.Proofs.YtpjbfdpblgjmfaaGreatDoor
