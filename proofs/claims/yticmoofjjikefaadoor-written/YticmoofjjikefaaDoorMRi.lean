/-
  The program's Decode.
  The program's Decode of a text that is not too long.
-/
import Derived.Test.YticmoofjjikefaaDoorMRh
import Derived.Test.YticmoofjjikefaaDoorDq
set_option linter.unusedVariables false
set_option linter.unusedSimpArgs false
namespace Go.Proofs.YticmoofjjikefaaDoor
open Go.RowKit Go.Lib

set_option maxRecDepth 100000 in
set_option maxHeartbeats 8000000 in
theorem cdecode_long (w : World) (s : List UInt8) (hl : 4000000 < s.length) : Calls Tryd.prog 5 #[.string ⟨s.toArray⟩] w fun e w' => DecPost w (⟨[], [], [], []⟩, 1, 0) e w' := by
  have hsz := size_mk s
  have hl2 : (4000000 : Int) < (s.length : Int) := by omega
  go_enter Tryd.func5, Tryd.ntmps5
  go_wp2
  refine bodyPost_ret (v := .tuple #[.agg #[.string ⟨#[]⟩, .slice none 0 0, .slice none 0 0, .slice none 0 0], .agg #[.int .i64 1, .int .i64 0]]) (by simp [results, Tryd.results5, go_sem]) rfl ?_
  exact ⟨_, _, _, rfl, code_nil _, ((Ch.refl _ _).al _).al _⟩
end Go.Proofs.YticmoofjjikefaaDoor

namespace Go.Proofs.YticmoofjjikefaaDoor
open Go.RowKit Go.Lib

theorem pm_new (w : World) (s : List UInt8) (x y : Obj) : PM (((w.alloc x).alloc y).alloc (.cells #[.string ⟨s.toArray⟩, .int .i64 0] 39)) (w.heap.size + 1 + 1) s 0 := by
  have e : w.heap.size + 1 + 1 = ((w.alloc x).alloc y).heap.size := by simp
  unfold PM
  rw [e]
  generalize (w.alloc x).alloc y = V
  first | exact heap_alloc_new _ _ | exact (heap_alloc _ _).1 | exact World.alloc_heap_new _ _
/-- The world behind the reader: the two blocks of the answer, the reader's code, the error's variable. -/
structure DecW (w W1 W : World) (x : List UInt8) (vo vh vf : Value) : Prop where
  a : W.heap[w.heap.size]? = some (.cells #[.string ⟨#[]⟩, .slice none 0 0, .slice none 0 0, .slice none 0 0] 26 (0, 0))
  f : W.heap[w.heap.size + 1]? = some (.cells #[.int .i64 0, .int .i64 0] 29 (0, 0))
  c : W.heap[W1.heap.size]? = some (.cells #[.string ⟨x.toArray⟩, vo, vh, vf] 26 (0, 0))
  m : W.heap[W1.heap.size + 1]? = some (.cells #[.int .i64 0, .int .i64 0] 45 (0, 0))
  lt : w.heap.size + 2 < W1.heap.size
  old : Ch (fun _ => False) w W
  keep : ∀ k, k < W1.heap.size → W.heap[k]? = W1.heap[k]?

theorem decW_of {w w1 : World} {s x : List UInt8} {vo vh vf : Value} (hg : (((w.alloc (.cells #[.string ⟨#[]⟩, .slice none 0 0, .slice none 0 0, .slice none 0 0] 26)).alloc (.cells #[.int .i64 0, .int .i64 0] 29)).alloc (.cells #[.string ⟨s.toArray⟩, .int .i64 0] 39)).grownBy w1 (some (w.heap.size + 1 + 1))) :
    DecW w w1 ((w1.alloc (.cells #[.string ⟨x.toArray⟩, vo, vh, vf] 26)).alloc (.cells #[.int .i64 0, .int .i64 0] 45)) x vo vh vf := by
  have hz : w.heap.size + 3 ≤ w1.heap.size := by have := hg.size; simp at this; omega
  have ea : w1.heap[w.heap.size]? = some (.cells #[.string ⟨#[]⟩, .slice none 0 0, .slice none 0 0, .slice none 0 0] 26 (0, 0)) :=
    (hg.block _ (by simp; omega) (by simp; omega)).trans (blk_alloc (blk_alloc (heap_alloc_new _ _)))
  have ef : w1.heap[w.heap.size + 1]? = some (.cells #[.int .i64 0, .int .i64 0] 29 (0, 0)) := by
    refine (hg.block _ (by simp) (by simp)).trans (blk_alloc ?_)
    have e : w.heap.size + 1 = (w.alloc (.cells #[.string ⟨#[]⟩, .slice none 0 0, .slice none 0 0, .slice none 0 0] 26)).heap.size := by simp
    rw [e]
    exact heap_alloc_new _ _
  refine ⟨blk_alloc (blk_alloc ea), blk_alloc (blk_alloc ef), blk_alloc (heap_alloc_new _ _), ?_, by omega, ?_, fun k hk => ?_⟩
  · have e : w1.heap.size + 1 = (w1.alloc (.cells #[.string ⟨x.toArray⟩, vo, vh, vf] 26)).heap.size := by simp
    rw [e]
    exact heap_alloc_new _ _
  · refine (((((Ch.refl (fun _ => False) w).al _).al _).al _).trans (grown_ch hg) (fun k hk => .inr (by omega))).al _ |>.al _
  · rw [Below.heap_alloc _ _ _ (by simp; omega), Below.heap_alloc _ _ _ hk]

theorem ch_dr {w w' : World} {O : Nat → Prop} (h : Ch O w w') : Ch O w w'.drew := ⟨h.size, h.same, h.eo⟩
theorem chn {w w' : World} (h : Ch (fun _ => False) w w') {a : Addr} {v : Value} (ha : w.heap.size ≤ a.block) : Ch (fun _ => False) w (w'.setCell a v) :=
  h.trans (Ch.setCell (O := fun k => k = a.block) w' a v rfl) (fun k hk => .inr (by omega))
theorem dec_fin {w W : World} {a' : Act} {d : Cd.Code × Nat × Nat} {t : List UInt8} {vo vh vf : Value} {k a : Int} (hd : a'.defers = []) (h2 : a'.tmps[2]? = some (.pointer (some ⟨w.heap.size, 0, none⟩))) (h3 : a'.tmps[3]? = some (.pointer (some ⟨w.heap.size + 1, 0, none⟩)))
    (hA : W.heap[w.heap.size]? = some (.cells #[.string ⟨t.toArray⟩, vo, vh, vf] 26 (0, 0))) (hF : W.heap[w.heap.size + 1]? = some (.cells #[.int .i64 k, .int .i64 a] 29 (0, 0)))
    (hs : d.1.shape = t) (hk : (d.2.1 : Int) = k) (ha : (d.2.2 : Int) = a) (hM : CodeM W vo vh vf d.1) (hC : Ch (fun _ => False) w W) : bodyPost Tryd.prog Tryd.f5 (fun e w' => DecPost w d e w') .ret a' W := by
  have c0 : W.cell? ⟨w.heap.size, 0, none⟩ = some (.string ⟨t.toArray⟩) := by simp [World.cell?, hA]
  have c1 : W.cell? ⟨w.heap.size, 1, none⟩ = some vo := by simp [World.cell?, hA]
  have c2 : W.cell? ⟨w.heap.size, 2, none⟩ = some vh := by simp [World.cell?, hA]
  have c3 : W.cell? ⟨w.heap.size, 3, none⟩ = some vf := by simp [World.cell?, hA]
  have f0 : W.cell? ⟨w.heap.size + 1, 0, none⟩ = some (.int .i64 k) := by simp [World.cell?, hF]
  have f1 : W.cell? ⟨w.heap.size + 1, 1, none⟩ = some (.int .i64 a) := by simp [World.cell?, hF]
  refine bodyPost_ret (v := .tuple #[.agg #[.string ⟨t.toArray⟩, vo, vh, vf], .agg #[.int .i64 k, .int .i64 a]]) ?_ hd ⟨vo, vh, vf, by rw [hs, hk, ha], hM, hC⟩
  simp [results, Tryd.results5, go_sem, h2, h3, c0, c1, c2, c3, f0, f1]
/-- The world behind errors.As, where it answers yes. -/
def asW (W : World) (o : Nat) (k a : Int) : World := (((((W.alloc (.cells #[.pointer (some ⟨o, 0, none⟩)] 47)).alloc (.cells #[.pointer (some ⟨1, 47, none⟩), .pointer (some ⟨W.heap.size, 0, none⟩), .int .u64 150] 86)).alloc (.cells #[.pointer (some ⟨1, 47, none⟩), .pointer (some ⟨W.heap.size, 0, none⟩), .int .u64 150] 86)).alloc (.cells #[.int .i64 k, .int .i64 a] 45)).setCell ⟨o, 0, none⟩ (.int .i64 k)).setCell ⟨o, 1, none⟩ (.int .i64 a)
theorem decW_as {w w1 W : World} {x : List UInt8} {vo vh vf : Value} {k a : Int} (D : DecW w w1 W x vo vh vf) :
    (asW W (w1.heap.size + 1) k a).heap[w.heap.size]? = some (.cells #[.string ⟨#[]⟩, .slice none 0 0, .slice none 0 0, .slice none 0 0] 26 (0, 0)) ∧ (asW W (w1.heap.size + 1) k a).heap[w.heap.size + 1]? = some (.cells #[.int .i64 0, .int .i64 0] 29 (0, 0)) ∧ (asW W (w1.heap.size + 1) k a).heap[w1.heap.size + 1]? = some (.cells #[.int .i64 k, .int .i64 a] 45 (0, 0)) ∧ Ch (fun _ => False) w (asW W (w1.heap.size + 1) k a) := by
  have hlt := D.lt
  unfold asW
  refine ⟨blk_other (blk_other (blk_alloc (blk_alloc (blk_alloc (blk_alloc D.a)))) (by simp; omega)) (by simp; omega), blk_other (blk_other (blk_alloc (blk_alloc (blk_alloc (blk_alloc D.f)))) (by simp; omega)) (by simp; omega), blk_set (blk_set (blk_alloc (blk_alloc (blk_alloc (blk_alloc D.m))))), ?_⟩
  exact chn (chn ((((D.old.al _).al _).al _).al _) (by simp; omega)) (by simp; omega)

set_option maxRecDepth 100000 in
set_option maxHeartbeats 8000000 in
theorem cdecode_ok (w : World) (s : List UInt8) (hs : s.length ≤ 4000000) (q : Cd.Code × Cd.Rd) (hq : Cd.Rd.code s (Cd.Rd.head s 3 (Cd.Rd.at_ 3)) = q) (h0 : q.2.fk = 0) : Calls Tryd.prog 5 #[.string ⟨s.toArray⟩] w fun e w' => DecPost w (q.1, 0, 0) e w' := by
  have hsz := size_mk s
  have hl2 : ¬ ((4000000 : Int) < (s.length : Int)) := by omega
  have HC := dcode_c (((w.alloc (.cells #[.string ⟨#[]⟩, .slice none 0 0, .slice none 0 0, .slice none 0 0] 26)).alloc (.cells #[.int .i64 0, .int .i64 0] 29)).alloc (.cells #[.string ⟨s.toArray⟩, .int .i64 0] 39)) (w.heap.size + 1 + 1) s (pm_new w s _ _) hs
  rw [hq] at HC
  unfold CdPost at HC
  rw [errV_ok h0] at HC
  go_enter Tryd.func5, Tryd.ntmps5
  go_upto_region 6 with (go_at_call 9; refine HC.mono ?_; clear HC; rintro e w1 ⟨t, ao, no, co, ah, nh, ch, af, nf, cf, rfl, hg, hr⟩)
  have D := decW_of (x := t) (vo := .slice ao no co) (vh := .slice ah nh ch) (vf := .slice af nf cf) hg
  clear hg
  generalize ((w1.alloc (.cells #[.string ⟨t.toArray⟩, .slice ao no co, .slice ah nh ch, .slice af nf cf] 26)).alloc (.cells #[.int .i64 0, .int .i64 0] 45)) = W at D ⊢
  obtain ⟨hsh, hcm⟩ := hr h0
  have HCM := hid hcm
  clear hr hcm
  have a0 : W.cell? ⟨w.heap.size, 0, none⟩ = some (.string ⟨#[]⟩) := by simp [World.cell?, D.a]
  have a1 : W.cell? ⟨w.heap.size, 1, none⟩ = some (.slice none 0 0) := by simp [World.cell?, D.a]
  have a2 : W.cell? ⟨w.heap.size, 2, none⟩ = some (.slice none 0 0) := by simp [World.cell?, D.a]
  have a3 : W.cell? ⟨w.heap.size, 3, none⟩ = some (.slice none 0 0) := by simp [World.cell?, D.a]
  have af_ : ∀ i, W.frozen? ⟨w.heap.size, i, none⟩ = false := fun i => by simp [World.frozen?, D.a]
  have f0 : W.cell? ⟨w.heap.size + 1, 0, none⟩ = some (.int .i64 0) := by simp [World.cell?, D.f]
  have f1 : W.cell? ⟨w.heap.size + 1, 1, none⟩ = some (.int .i64 0) := by simp [World.cell?, D.f]
  have ff : ∀ i, W.frozen? ⟨w.heap.size + 1, i, none⟩ = false := fun i => by simp [World.frozen?, D.f]
  have c0 : W.cell? ⟨w1.heap.size, 0, none⟩ = some (.string ⟨t.toArray⟩) := by simp [World.cell?, D.c]
  have c1 : W.cell? ⟨w1.heap.size, 1, none⟩ = some (.slice ao no co) := by simp [World.cell?, D.c]
  have c2 : W.cell? ⟨w1.heap.size, 2, none⟩ = some (.slice ah nh ch) := by simp [World.cell?, D.c]
  have c3 : W.cell? ⟨w1.heap.size, 3, none⟩ = some (.slice af nf cf) := by simp [World.cell?, D.c]
  have DD := hid D
  have hlt := D.lt
  clear D
  go_wp2_with (go_at_call 10; refine (asNo _ _).mono ?_; rintro e w9 ⟨rfl, hw9⟩; obtain rfl := hw9.symm)
  have D := DD.out
  refine dec_fin (w := w) (d := (q.1, 0, 0)) rfl rfl rfl ?_ ?_ hsh rfl rfl (HCM.out _ (fun k h1 h2 => ?_)) ?_
  · exact blk_other (blk_other (blk_set (blk_set (blk_set (blk_set D.a)))) (by simp)) (by simp)
  · exact blk_set (blk_set (blk_other (blk_other (blk_other (blk_other D.f (by simp)) (by simp)) (by simp)) (by simp)))
  · simp at h1
    rw [Below.heap_setCell _ _ _ k (by dsimp only; omega), Below.heap_setCell _ _ _ k (by dsimp only; omega), Below.heap_setCell _ _ _ k (by dsimp only; omega), Below.heap_setCell _ _ _ k (by dsimp only; omega), Below.heap_setCell _ _ _ k (by dsimp only; omega), Below.heap_setCell _ _ _ k (by dsimp only; omega)]
    exact D.keep k h2
  · exact chn (chn (chn (chn (chn (chn D.old (by simp)) (by simp)) (by simp)) (by simp)) (by simp)) (by simp)
set_option maxRecDepth 100000 in
set_option maxHeartbeats 8000000 in
theorem cdecode_no (w : World) (hg0 : w.cell? ⟨0, 0, none⟩ = some (.iface 120 (.agg #[.pointer (some ⟨1, 41, none⟩)]))) (s : List UInt8) (hs : s.length ≤ 4000000) (q : Cd.Code × Cd.Rd) (hq : Cd.Rd.code s (Cd.Rd.head s 3 (Cd.Rd.at_ 3)) = q) (h0 : q.2.fk ≠ 0) : Calls Tryd.prog 5 #[.string ⟨s.toArray⟩] w fun e w' => DecPost w (⟨[], [], [], []⟩, q.2.fk, q.2.fa) e w' := by
  have hsz := size_mk s
  have hl2 : ¬ ((4000000 : Int) < (s.length : Int)) := by omega
  have HC := dcode_c (((w.alloc (.cells #[.string ⟨#[]⟩, .slice none 0 0, .slice none 0 0, .slice none 0 0] 26)).alloc (.cells #[.int .i64 0, .int .i64 0] 29)).alloc (.cells #[.string ⟨s.toArray⟩, .int .i64 0] 39)) (w.heap.size + 1 + 1) s (pm_new w s _ _) hs
  rw [hq] at HC
  unfold CdPost at HC
  rw [errV_no h0] at HC
  have HG0 := hid hg0
  clear hg0
  go_enter Tryd.func5, Tryd.ntmps5
  go_upto_region 6 with (go_at_call 9; refine HC.mono ?_; clear HC; rintro e w1 ⟨t, ao, no, co, ah, nh, ch, af, nf, cf, rfl, hg, hr⟩)
  have D := decW_of (x := t) (vo := .slice ao no co) (vh := .slice ah nh ch) (vf := .slice af nf cf) hg
  clear hg hr
  generalize ((w1.alloc (.cells #[.string ⟨t.toArray⟩, .slice ao no co, .slice ah nh ch, .slice af nf cf] 26)).alloc (.cells #[.int .i64 0, .int .i64 0] 45)) = W at D ⊢
  have hw0 : 0 < w.heap.size := by
    have h := HG0.out
    rcases Nat.eq_zero_or_pos w.heap.size with h0 | h1
    · simp [World.cell?, h0] at h
    · exact h1
  have hgW : W.cell? ⟨0, 0, none⟩ = some (.iface 120 (.agg #[.pointer (some ⟨1, 41, none⟩)])) := by
    rw [World.cell?_of_block (D.old.same 0 hw0 (fun h => h))]
    exact HG0.out
  have HA := asYes (q.2.fk : Nat) (q.2.fa : Nat) (w1.heap.size + 1) _ _ W hgW D.m
  have hE := decW_as (k := (q.2.fk : Nat)) (a := (q.2.fa : Nat)) D
  have hlt := D.lt
  clear D hgW
  change Calls _ _ _ _ (fun ev w' => ev = .returned (.bool true) ∧ w' = asW W (w1.heap.size + 1) (q.2.fk : Nat) (q.2.fa : Nat)) at HA
  generalize asW W (w1.heap.size + 1) (q.2.fk : Nat) (q.2.fa : Nat) = W2 at HA hE
  obtain ⟨eA, eF, eM, eC⟩ := hE
  have a0 : W2.cell? ⟨w.heap.size, 0, none⟩ = some (.string ⟨#[]⟩) := by simp [World.cell?, eA]
  have a1 : W2.cell? ⟨w.heap.size, 1, none⟩ = some (.slice none 0 0) := by simp [World.cell?, eA]
  have a2 : W2.cell? ⟨w.heap.size, 2, none⟩ = some (.slice none 0 0) := by simp [World.cell?, eA]
  have a3 : W2.cell? ⟨w.heap.size, 3, none⟩ = some (.slice none 0 0) := by simp [World.cell?, eA]
  have af_ : ∀ i, W2.frozen? ⟨w.heap.size, i, none⟩ = false := fun i => by simp [World.frozen?, eA]
  have f0 : W2.cell? ⟨w.heap.size + 1, 0, none⟩ = some (.int .i64 0) := by simp [World.cell?, eF]
  have f1 : W2.cell? ⟨w.heap.size + 1, 1, none⟩ = some (.int .i64 0) := by simp [World.cell?, eF]
  have ff : ∀ i, W2.frozen? ⟨w.heap.size + 1, i, none⟩ = false := fun i => by simp [World.frozen?, eF]
  have c0 : W2.cell? ⟨w1.heap.size + 1, 0, none⟩ = some (.int .i64 (q.2.fk : Nat)) := by simp [World.cell?, eM]
  have c1 : W2.cell? ⟨w1.heap.size + 1, 1, none⟩ = some (.int .i64 (q.2.fa : Nat)) := by simp [World.cell?, eM]
  replace eA := hid eA
  replace eF := hid eF
  replace eM := hid eM
  replace eC := hid eC
  go_wp2_with (go_at_call 10; refine HA.mono ?_; clear HA; rintro e w9 ⟨rfl, rfl⟩)
  go_region
  all_goals go_wp2
  all_goals refine dec_fin (w := w) (d := (⟨[], [], [], []⟩, q.2.fk, q.2.fa)) rfl rfl rfl (blk_dr (blk_other (blk_other (blk_set (blk_set (blk_set (blk_set eA.out)))) (by simp)) (by simp))) (blk_dr (blk_set (blk_set (blk_other (blk_other (blk_other (blk_other eF.out (by simp)) (by simp)) (by simp)) (by simp))))) rfl rfl rfl (code_nil _) ?_
  all_goals exact ch_dr (chn (chn (chn (chn (chn (chn eC.out (by simp)) (by simp)) (by simp)) (by simp)) (by simp)) (by simp))
/-- The program's Decode, of every text. -/
theorem cdecode_any (w : World) (hg0 : w.cell? ⟨0, 0, none⟩ = some (.iface 120 (.agg #[.pointer (some ⟨1, 41, none⟩)]))) (s : List UInt8) : Calls Tryd.prog 5 #[.string ⟨s.toArray⟩] w fun e w' => DecPost w (Cd.dec s) e w' := by
  by_cases hl : 4000000 < s.length
  · have e : Cd.dec s = (⟨[], [], [], []⟩, 1, 0) := by unfold Cd.dec; rw [if_pos hl]
    rw [e]
    exact cdecode_long w s hl
  · obtain ⟨q, hq⟩ : ∃ q, Cd.Rd.code s (Cd.Rd.head s 3 (Cd.Rd.at_ 3)) = q := ⟨_, rfl⟩
    have e : Cd.dec s = (if q.2.fk = 0 then (q.1, 0, 0) else (⟨[], [], [], []⟩, q.2.fk, q.2.fa)) := by
      unfold Cd.dec
      rw [if_neg hl, show (⟨3, 0, 0⟩ : Cd.Rd) = Cd.Rd.at_ 3 from rfl, hq]
    rw [e]
    have hl2 : s.length ≤ 4000000 := Nat.le_of_not_lt hl
    by_cases h0 : q.2.fk = 0
    · rw [if_pos h0]
      exact cdecode_ok w s hl2 q hq h0
    · rw [if_neg h0]
      exact cdecode_no w hg0 s hl2 q hq h0
end Go.Proofs.YticmoofjjikefaaDoor
