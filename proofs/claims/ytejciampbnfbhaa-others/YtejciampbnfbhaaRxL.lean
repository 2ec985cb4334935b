import Derived.Test.YtejciampbnfbhaaMRxI
import Derived.BigRegion
set_option linter.unusedVariables false
set_option linter.unusedSimpArgs false
set_option maxRecDepth 100000
set_option maxHeartbeats 4000000
namespace Go.Proofs.Ytejciampbnfbhaa
open Go.RowKit
structure Sq (w : World) (b A R lo : Nat) (s : ByteArray) (z : Sy.Env) (x : Sy.Tr) (S : Sy.RS) (e d : Nat) (v : Value) (ls : List (Sy.Tr × Value)) (W : World) : Prop where
 row : RowS W lo v ls
 var : ∃ a l c, Blk W A [.int .i64 x.kind, .int .i64 x.pos, .string ⟨x.name.toArray⟩, .int .i64 x.num, .slice a l c] ∧ Kids W (fun g => lo ≤ g) (.slice a l c) x.kids
 res : ∃ r0 r1 r2 r3 r4, Blk W R [r0, r1, r2, r3, r4]
 rd : Rd W b s z S e d
 kp : Kp b w W
 size : lo ≤ W.heap.size
theorem Sq.step {w W W' : World} {b A R lo e d : Nat} {s : ByteArray} {z : Sy.Env} {x : Sy.Tr} {S S' : Sy.RS} {v : Value} {ls : List (Sy.Tr × Value)} (h : Sq w b A R lo s z x S e d v ls W) (hr : Rd W' b s z S' e d) (hk : Kp b W W') (h1 : A ≠ b) (h2 : R ≠ b) (h3 : b < lo) : Sq w b A R lo s z x S' e d v ls W' := by
 obtain ⟨h4, ⟨a, l, c, h5, h6⟩, ⟨r0, r1, r2, r3, r4, h7⟩, _, h9, h10⟩ := h
 exact ⟨h4.kp hk h3, ⟨a, l, c, h5.kp hk h1, h6.kp hk h3 (Nat.le_refl _)⟩, ⟨r0, r1, r2, r3, r4, h7.kp hk h2⟩, hr, h9.trans hk, Nat.le_trans h10 hk.size⟩
theorem Sq.past {w W W' : World} {b A R lo e d : Nat} {s : ByteArray} {z : Sy.Env} {x : Sy.Tr} {S : Sy.RS} {v : Value} {ls : List (Sy.Tr × Value)} (h : Sq w b A R lo s z x S e d v ls W) (hk : Below W.heap.size W W') : Sq w b A R lo s z x S e d v ls W' := by
 obtain ⟨h4, ⟨a, l, c, h5, h6⟩, ⟨r0, r1, r2, r3, r4, h7⟩, h8, h9, h10⟩ := h
 exact ⟨h4.past hk, ⟨a, l, c, h5.past hk, h6.pastF hk⟩, ⟨r0, r1, r2, r3, r4, h7.past hk⟩, h8.below hk h8.lt, h9.below hk, Nat.le_trans h10 hk.size⟩
theorem Sq.app {w W W' : World} {b A R lo e d g cap : Nat} {s : ByteArray} {z : Sy.Env} {x : Sy.Tr} {S : Sy.RS} {v : Value} {ls : List (Sy.Tr × Value)} {T : Sy.Tr} {kv : Value} (h : Sq w b A R lo s z x S e d v ls W) (hA : A < lo) (hR : R < lo) (hb : b < lo) (hw : w.heap.size ≤ lo)
  (ho : W'.ownsRow lo 35 5 (.slice (some ⟨g, 0, none⟩) (ls.length + 1) cap) (ls.length + 1) (rowCells ls ++ nodeCells T kv)) (hg : W.grownBy W' v.ownBlock) (hat : v.ownBlock = some g ∨ g = W.heap.size) (hk : Kids W (Fo lo v) kv T.kids)
  (hx : ∀ a l c, Kids W (fun q => lo ≤ q) (.slice a l c) x.kids → Kids W' (fun q => lo ≤ q) (.slice a l c) x.kids) :
  Sq w b A R lo s z x S e d (.slice (some ⟨g, 0, none⟩) (ls.length + 1) cap) (ls ++ [(T, kv)]) W' := by
 obtain ⟨h4, ⟨a, l, c, h5, h6⟩, ⟨r0, r1, r2, r3, r4, h7⟩, h8, h9, h10⟩ := h
 have hne : ∀ q, q < lo → some q ≠ v.ownBlock := fun q hq e => by
  have := (h4.own.lt q e.symm).1
  omega
 refine ⟨h4.app ho hg hat hk, ⟨a, l, c, h5.of_heap (hg.block A h5.lt (hne A hA)), hx a l c h6⟩, ⟨r0, r1, r2, r3, r4, h7.of_heap (hg.block R h7.lt (hne R hR))⟩, h8.of_heap (hg.block b h8.lt (hne b hb)), ?_, Nat.le_trans h10 hg.size⟩
 exact ⟨hg.os.trans h9.os, hg.tape.trans h9.tape, hg.output.trans h9.output, Nat.le_trans h9.size hg.size, fun i hi hn => (hg.block i (Nat.lt_of_lt_of_le hi h9.size) (hne i (by omega))).trans (h9.block i hi hn)⟩
theorem Kids.empty {W W' : World} {F F' : Nat → Prop} {v : Value} {l : List Sy.Tr} (h : Kids W F v l) (hl : l = []) : Kids W' F' v l := by
 cases h with
 | nil => exact .nil
 | row g c kids ks hg h0 => exact absurd hl h0
theorem rowS_cells {W : World} {lo g n cap : Nat} {ls : List (Sy.Tr × Value)} (h : RowS W lo (.slice (some ⟨g, 0, none⟩) n cap) ls) (i : Nat) (hi : i < ls.length) : NodeAt W g (i * 5) ls[i].1 ls[i].2 := by
 have hc : ∀ j, j < 5 → W.cell? ⟨g, i * 5 + j, none⟩ = (nodeCells ls[i].1 ls[i].2)[j]? := fun j hj => by
  have h1 := rowCells_get ls i j hi hj
  have h2 : j < (nodeCells ls[i].1 ls[i].2).length := hj
  rw [List.getElem?_eq_getElem h2] at h1 ⊢
  have h3 := h.own.cells (g := g) rfl _ _ h1
  have e : (⟨g, 0, none⟩ : Addr).add (i * 5 + j) = ⟨g, i * 5 + j, none⟩ := by unfold Addr.add; split <;> simp_all
  rw [e] at h3
  exact h3
 exact ⟨hc 0 (by omega), hc 1 (by omega), hc 2 (by omega), hc 3 (by omega), hc 4 (by omega)⟩
theorem consUp_snoc (l : List Sy.Tr) (a x : Sy.Tr) : Sy.consUp (l ++ [a]) x = Sy.consUp l (Sy.nd 16 a.pos [a, x]) := by simp [Sy.consUp]
theorem sto5_size (w : World) (A : Nat) (v0 v1 v2 v3 v4 : Value) : (sto5 w A v0 v1 v2 v3 v4).heap.size = w.heap.size := by simp [sto5, go_sem]
theorem Sq.put {w W : World} {b A R lo e d : Nat} {s : ByteArray} {z : Sy.Env} {x : Sy.Tr} {S : Sy.RS} {v : Value} {ls : List (Sy.Tr × Value)} (h : Sq w b A R lo s z x S e d v ls W) (T : Sy.Tr) {a : Option Addr} {l c : Nat} (hk : Kids W (fun g => lo ≤ g) (.slice a l c) T.kids)
  (h1 : R ≠ A) (h2 : b ≠ A) (h3 : A < lo) (h4 : w.heap.size ≤ A) (kk pp nn : Int) (xx : ByteArray) (e1 : kk = T.kind) (e2 : pp = T.pos) (e3 : xx = ⟨T.name.toArray⟩) (e4 : nn = T.num) :
  ∃ W', ((((W.setCell ⟨A, 0, none⟩ (.int .i64 kk)).setCell ⟨A, 1, none⟩ (.int .i64 pp)).setCell ⟨A, 2, none⟩ (.string xx)).setCell ⟨A, 3, none⟩ (.int .i64 nn)).setCell ⟨A, 4, none⟩ (.slice a l c) = W' ∧ Hid (Sq w b A R lo s z T S e d v ls W') := by
 subst e1 e2 e3 e4
 obtain ⟨h5, ⟨a', l', c', h6, _⟩, ⟨r0, r1, r2, r3, r4, h7⟩, h8, h9, h10⟩ := h
 refine ⟨_, rfl, h5.heap (sto5_size _ _ _ _ _ _ _) (fun g hg => sto5_heap _ _ _ _ _ _ _ _ (by omega)), ⟨a, l, c, h6.store _ _ _ _ _, ?_⟩, ⟨r0, r1, r2, r3, r4, h7.of_heap (sto5_heap _ _ _ _ _ _ _ _ h1)⟩, h8.of_heap (sto5_heap _ _ _ _ _ _ _ _ h2), sto5_kp h9 h4 _ _ _ _ _, ?_⟩
 ·exact hk.carry (fun g hg _ => sto5_heap _ _ _ _ _ _ _ _ (by omega)) (fun g hg _ => hg)
 ·exact (show lo ≤ (sto5 W A _ _ _ _ _).heap.size by rw [sto5_size]; exact h10)
theorem Sq.drew {w W : World} {b A R lo e d : Nat} {s : ByteArray} {z : Sy.Env} {x : Sy.Tr} {S : Sy.RS} {v : Value} {ls : List (Sy.Tr × Value)} (h : Sq w b A R lo s z x S e d v ls W) : Sq w b A R lo s z x S e d v ls W.drew := h.past (Below.refl _ _).drew
theorem len_bytes {n N : Nat} (h : n < N) (hN : N ≤ 100000) : n + 1 ≤ maxLen ∧ (n + 1) * 64 ≤ 140737488355328 := by
 unfold maxLen
 omega
theorem square_m (N k : Nat) (hN : N ≤ 100000) (hE : ExprOK N k) : SquareOK N k := by
 intro w b s z p S d h hm
 have H := hid h
 have HM := hid hm
 have hlt := h.lt
 clear h hm
 obtain ⟨i0, hi, hiz0, hiz1, hiz2⟩ := info_parts Try.info36
 cases h1 : Sy.isA Sy.s_rs S with
 | true =>
  go_enter Try.func100, Try.ntmps100
  go_wp2_with fail
  obtain ⟨W0, hW0, HI⟩ := in1 H.out 35
  rw [hW0]
  have HW0 := hid hW0
  clear hW0
  have hz0 := HI.out.size
  refine (node_m _ _ _ _ _ _).mono ?_
  rintro en w1 ⟨rfl, HB1⟩
  have HRS1 := hid (HI.out.one.past HB1.out)
  have HKA1 := hid (HI.out.kp.below HB1.out)
  have HR1 := hid (HI.out.rd.below HB1.out HI.out.rd.lt)
  have ht1 := HB1.out.size
  have HE0 := hid (Blk.new w1 [.int .i64 15, .int .i64 p, .string ⟨#[]⟩, .int .i64 0, .slice none 0 0] 35)
  have HAL := hid (Below.alloc (Below.refl w1.heap.size w1) (Nat.le_refl _) (.cells #[.int .i64 15, .int .i64 p, .string ⟨#[]⟩, .int .i64 0, .slice none 0 0] 35))
  have HRa := hid (HR1.out.alloc (.cells #[.int .i64 15, .int .i64 p, .string ⟨#[]⟩, .int .i64 0, .slice none 0 0] 35))
  have HRS1 := hid (HRS1.out.past HAL.out)
  have HKA1 := hid (HKA1.out.below HAL.out)
  have hs1 : (w1.alloc (.cells #[.int .i64 15, .int .i64 p, .string ⟨#[]⟩, .int .i64 0, .slice none 0 0] 35)).heap.size = w1.heap.size + 1 := by simp
  go_wp2_with fail
  generalize hW1 : w1.alloc (.cells #[.int .i64 15, .int .i64 p, .string ⟨#[]⟩, .int .i64 0, .slice none 0 0] 35) = W1 at *
  clear hW1
  have HX : Hid (Sy.squareA z N (Sy.exprA z N k) p S = (Sy.nd 15 p [], Sy.nextA z S)) := by simp [Hid, Sy.squareA, h1]
  refine (has_yes _ b s z S (200 - k) d Sy.s_rs HRa.out h1).mono ?_
  rintro en w2 ⟨rfl, hr2, hk2⟩
  have HR2 := hid hr2
  have HK2 := hid hk2
  clear hr2 hk2
  have HRS2 := hid (HRS1.out.kp HK2.out (by omega))
  have HKA2 := hid (HKA1.out.trans HK2.out)
  have ht2 := HK2.out.size
  have HE1 := hid (HE0.out.kp HK2.out (by omega))
  obtain ⟨⟨q0, q1, q2, q3, q4⟩, q5, q6, q7, q8, q9⟩ := blk5 HE1.out
  obtain ⟨⟨u0, u1, u2, u3, u4⟩, u5, u6, u7, u8, u9⟩ := blk5 HRS2.out
  go_wp2_with fail
  refine bodyPost_ret (v := .agg #[.int .i64 15, .int .i64 p, .string ⟨#[]⟩, .int .i64 0, .slice none 0 0]) (by simp [results, Try.results100, go_sem, u0, u1, u2, u3, u4]) rfl ?_
  exact nres_fin (lo := W0.heap.size) (Sy.nd 15 p []) (Sy.nextA z S) .nil HR2.out HKA2.out HX.out (by omega) (by omega) (by omega) _ _ _ _ rfl rfl rfl rfl _ _ _ _ _
 | false =>
  go_enter Try.func100, Try.ntmps100
  go_wp2_with fail
  obtain ⟨W0, hW0, HI⟩ := in1 H.out 35
  rw [hW0]
  have HW0 := hid hW0
  clear hW0
  have hz0 := HI.out.size
  refine (node_m _ _ _ _ _ _).mono ?_
  rintro en w1 ⟨rfl, HB1⟩
  have HRS1 := hid (HI.out.one.past HB1.out)
  have HKA1 := hid (HI.out.kp.below HB1.out)
  have HR1 := hid (HI.out.rd.below HB1.out HI.out.rd.lt)
  have ht1 := HB1.out.size
  have HE0 := hid (Blk.new w1 [.int .i64 15, .int .i64 p, .string ⟨#[]⟩, .int .i64 0, .slice none 0 0] 35)
  have HAL := hid (Below.alloc (Below.refl w1.heap.size w1) (Nat.le_refl _) (.cells #[.int .i64 15, .int .i64 p, .string ⟨#[]⟩, .int .i64 0, .slice none 0 0] 35))
  have HRa := hid (HR1.out.alloc (.cells #[.int .i64 15, .int .i64 p, .string ⟨#[]⟩, .int .i64 0, .slice none 0 0] 35))
  have HRS1 := hid (HRS1.out.past HAL.out)
  have HKA1 := hid (HKA1.out.below HAL.out)
  have hs1 : (w1.alloc (.cells #[.int .i64 15, .int .i64 p, .string ⟨#[]⟩, .int .i64 0, .slice none 0 0] 35)).heap.size = w1.heap.size + 1 := by simp
  go_wp2_with fail
  generalize hW1 : w1.alloc (.cells #[.int .i64 15, .int .i64 p, .string ⟨#[]⟩, .int .i64 0, .slice none 0 0] 35) = W1 at *
  clear hW1
  refine (has_no _ b s z S (200 - k) d Sy.s_rs HRa.out h1).mono ?_
  rintro en w' ⟨rfl, rfl⟩
  go_wp2_with fail
  have HL : Hid (Sq w b w1.heap.size w.heap.size W1.heap.size s z (Sy.nd 15 p []) S (200 - k) d (.slice none 0 0) [] W1) := ⟨RowS.nil _ _, ⟨none, 0, 0, HE0.out, .nil⟩, ⟨_, _, _, _, _, HRS1.out⟩, HRa.out, HKA1.out, Nat.le_refl _⟩
  go_loopg [6] N (fun n v wr => ∃ (ls : List (Sy.Tr × Value)) (S1 : Sy.RS), Hid (Sq w b w1.heap.size w.heap.size W1.heap.size s z (Sy.nd 15 p []) S1 (200 - k) d v ls wr) ∧ Hid (Sy.squaresA z (Sy.exprA z N k) n (ls.map (·.1)) S1 = Sy.squaresA z (Sy.exprA z N k) N [] S) ∧ Hid (Sy.mu S1 < N) ∧ Hid (Sy.mu S1 < n) ∧ Hid (ls.length + n = N))
  case atStart => exact ⟨[], S, HL, hid rfl, HM, HM, hid (by simp)⟩
  case round =>
   obtain ⟨ls, S1, HL, HEQ, HMA, HMB, HLN⟩ := hrel; obtain ⟨m, hm⟩ : ∃ m, gk = m + 1 := ⟨gk - 1, by have := HMB.out; omega⟩; subst hm; have hzr := HL.out.size; have HLB := hid (len_bytes (n := ls.length) (N := N) (by have := HLN.out; omega) hN)
   go_wp2_with fail
   refine (hE wr b s z S1 d HL.out.rd HMA.out).mono ?_; rintro en w2 ⟨a2, l2, c2, rfl, HKd2, HR2, HK2⟩; have HMU2 := hid (Sy.mu_expr z N k S1); generalize hy2 : Sy.exprA z N k S1 = y2 at *; have HY2 := hid hy2; clear hy2; obtain ⟨W2, hW2, HV2, HRd2, HKp2, hs2, ht2⟩ := var_new HKd2.out HR2.out HK2.out 35; have HL2 := hid (HL.out.step HRd2.out HKp2.out (by omega) (by omega) (by omega)); have HL3 := hid (HL2.out.past ((Below.refl _ _).alloc (Nat.le_refl _) (.cells #[.int .i64 y2.1.kind, .int .i64 y2.1.pos, .string ⟨y2.1.name.toArray⟩, .int .i64 y2.1.num, .slice a2 l2 c2] 35))); obtain ⟨⟨q0, q1, q2, q3, q4⟩, q5, q6, q7, q8, q9⟩ := blk5 HV2.out.cells; have HNW := hid (node_news (w := W2) (T := y2.1) (a := a2) (l := l2) (c := c2) (ty := 35) (H := w2.heap.size + 1) hs2); have hb3 : W1.heap.size ≤ (W2.alloc (.cells #[.int .i64 y2.1.kind, .int .i64 y2.1.pos, .string ⟨y2.1.name.toArray⟩, .int .i64 y2.1.num, .slice a2 l2 c2] 35)).heap.size := HL3.out.size
   go_wp2_with (at_builtin; go_must (refine wpList_append_lies _ rfl _ _ 33 rfl W1.heap.size 35 i0 (.agg #[.int .i64 0, .int .i64 0, .string ⟨#[]⟩, .int .i64 0, .slice none 0 0]) 5 64 Try.underlying33 hi hiz0 hiz1 hiz2 rfl (by decide) u6 ls.length (rowCells ls) rfl HL3.out.row.own ⟨w2.heap.size + 1, 0, none⟩ 1 1 (nodeCells y2.1 (.slice a2 l2 c2)) rfl rfl HNW.out (node_one _ _ _ _) (by decide) HLB.out.1 HLB.out.2 hb3 _ rfl ?_); intro g cap w3 hown hgrow hat hlt3)
   have HKT : Hid (Kids (W2.alloc (.cells #[.int .i64 y2.1.kind, .int .i64 y2.1.pos, .string ⟨y2.1.name.toArray⟩, .int .i64 y2.1.num, .slice a2 l2 c2] 35)) (Fo W1.heap.size u6) (.slice a2 l2 c2) y2.1.kids) := by
    refine (HV2.out.kids.weak (fun g hg _ => ⟨by have := hg.1; omega, ?_⟩)).pastF ((Below.refl _ _).alloc (Nat.le_refl _) _); intro e; have h1 := (HL.out.row.own.lt g e.symm).2; have h2 := hg.1; omega
   have HL4 := hid (HL3.out.app (by omega) (by omega) (by omega) (by omega) hown hgrow hat HKT.out (fun a l c h => h.empty rfl)); clear hown hgrow hat q0 q1 q2 q3 q4 q5 q6 q7 q8 q9 hW2; generalize hls : ls ++ [(y2.1, .slice a2 l2 c2)] = ls2 at *; have HLS := hid hls; have hll : ls2.length = ls.length + 1 := by rw [← hls]; simp
   clear hls
   cases hc : Sy.isA Sy.s_comma y2.2 with
   | true =>
    have HEQ2 : Hid (Sy.squaresA z (Sy.exprA z N k) m (ls2.map (·.1)) (Sy.nextA z y2.2) = Sy.squaresA z (Sy.exprA z N k) N [] S) := by
     rw [Hid, ← HEQ.out, Sy.squaresA, HY2.out, ← HLS.out]
     simp [hc]
    have HM3 := hid (Sy.mu_is z hc); refine (has_yes _ b s z y2.2 (200 - k) d Sy.s_comma HL4.out.rd hc).mono ?_; rintro en w4 ⟨rfl, HR4, HK4⟩; have HL5 := hid (HL4.out.step HR4.out HK4.out (by omega) (by omega) (by omega))
    go_wp2_with fail
    go_roundg m
    case measure => omega
    case rel =>
     refine ⟨ls2, _, ?_, HEQ2, ?_, ?_, ?_⟩
     ·exact HL5
     ·have h1 := HM3.out; have h2 := HMU2.out; have h3 := HMA.out; simp only [Hid]; omega
     ·have h1 := HM3.out; have h2 := HMU2.out; have h3 := HMB.out; simp only [Hid]; omega
     ·have h1 := HLN.out; simp only [Hid]; omega
   | false =>
    have HSQ : Hid (Sy.squareA z N (Sy.exprA z N k) p S = (Sy.consUp (ls2.map (·.1)) (Sy.nd 15 p []), Sy.mustA z Sy.s_rs y2.2)) := by
     have e : Sy.squaresA z (Sy.exprA z N k) N [] S = (ls2.map (·.1), y2.2) := by
      rw [← HEQ.out, Sy.squaresA, HY2.out, ← HLS.out]
      simp [hc]
     simp [Hid, Sy.squareA, h1, e]
    refine (has_no _ b s z y2.2 (200 - k) d Sy.s_comma HL4.out.rd hc).mono ?_; rintro en w' ⟨rfl, rfl⟩
    go_wp2_with fail
    refine (must_m _ b s z _ (200 - k) d Sy.s_rs HL4.out.rd).mono ?_; rintro en w4 ⟨rfl, hr4, hk4⟩; have HL5 := hid (HL4.out.step hr4 hk4 (by omega) (by omega) (by omega)); clear hr4 hk4; have hlb : (ls.length : Int) ≤ 100000 := by have := HLN.out; omega
    go_wp2_with fail
    go_loopg [8] ls2.length (fun n i wr => ∃ x : Sy.Tr, i = .int .i64 ((n : Int) - 1) ∧ n ≤ ls2.length ∧ Hid (Sq w b w1.heap.size w.heap.size W1.heap.size s z x (Sy.mustA z Sy.s_rs y2.2) (200 - k) d (.slice (some ⟨g, 0, none⟩) (ls.length + 1) cap) ls2 wr) ∧ Hid (Sy.consUp ((ls2.take n).map (·.1)) x = Sy.consUp (ls2.map (·.1)) (Sy.nd 15 p [])))
    case atStart => exact ⟨_, congrArg (Value.int IntKind.i64) (by omega), Nat.le_refl _, HL5, by simp [Hid]⟩
    case round =>
     obtain ⟨x, hxi, hn, HLx, HC⟩ := hrel; obtain ⟨a, l, c, HBx, HKx⟩ := HLx.out.var; obtain ⟨r0, r1, r2, r3, r4, HRSx⟩ := HLx.out.res; obtain ⟨⟨q0, q1, q2, q3, q4⟩, q5, q6, q7, q8, q9⟩ := blk5 HBx; obtain ⟨⟨v0, v1, v2, v3, v4⟩, v5, v6, v7, v8, v9⟩ := blk5 HRSx; have HKX := hid HKx; have HBX := hid HBx; have HRSX := hid HRSx; clear HKx HBx HRSx
     cases gk with
     | zero =>
      have hx1 : u8 = .int .i64 (-1) := by rw [hxi]; rfl
      subst hx1; clear hxi
      have HX : Hid (Sy.squareA z N (Sy.exprA z N k) p S = (x, Sy.mustA z Sy.s_rs y2.2)) := by
       have h := HC.out; simp only [List.take_zero, List.map_nil] at h; rw [Hid, HSQ.out, ← h]; rfl
      go_wp2_with fail
      refine bodyPost_ret (v := .agg #[.int .i64 x.kind, .int .i64 x.pos, .string ⟨x.name.toArray⟩, .int .i64 x.num, .slice a l c]) (by simp [results, Try.results100, go_sem, v0, v1, v2, v3, v4]) rfl ?_; exact nres_fin (lo := W1.heap.size) x (Sy.mustA z Sy.s_rs y2.2) HKX.out HLx.out.rd HLx.out.kp HX.out (by omega) (by omega) (by omega) _ _ _ _ rfl rfl rfl rfl _ _ _ _ _
     | succ m =>
      have hx1 : u8 = .int .i64 (m : Int) := by rw [hxi]; exact congrArg (Value.int IntKind.i64) (by omega)
      subst hx1; clear hxi; have hi0 : (0 : Int) ≤ (m : Int) := by omega
      have hi1 : (m : Int) < (ls.length : Int) + 1 := by omega
      have hi2 : m < ls2.length := by omega
      have hi3 : m < ls.length + 1 := by omega
      obtain ⟨e0, e1, e2, e3, e4⟩ := rowS_cells HLx.out.row m hi2; have HKE := hid (HLx.out.row.kids _ (List.getElem_mem hi2))
      have HC2 : Hid (Sy.consUp ((ls2.take m).map (·.1)) (Sy.nd 16 ls2[m].1.pos [ls2[m].1, x]) = Sy.consUp (ls2.map (·.1)) (Sy.nd 15 p [])) := by
       rw [Hid, ← HC.out, List.take_succ_eq_append_getElem hi2, List.map_append, List.map_cons, List.map_nil, consUp_snoc]
      obtain ⟨a3, c3, hsl⟩ := HKE.out.slice; generalize hel : ls2[m] = el at *; obtain ⟨T, kv⟩ := el; simp only at hsl e0 e1 e2 e3 e4 HKE HC2; subst hsl; clear hel
      go_wp2_with fail
      have hgl : g < wr.heap.size := World.block_lt_of_cell? wr ⟨g, _, none⟩ e0; have hgo : W1.heap.size ≤ g := (HLx.out.row.own.lt g rfl).1; have hAl : w1.heap.size < wr.heap.size := HBX.out.lt; have hne1 : w1.heap.size ≠ g := by omega
      have hne2 : ¬ g = w1.heap.size := by omega
      have hzx := HLx.out.size
      go_region_with
       ((go_at_call 15; refine (node_m _ _ _ _ _ _).mono ?_; rintro en w5 ⟨rfl, HBA⟩; have je0 := (bcell HBA.out).1 g (m * 5) (by simp; omega); have je1 := (bcell HBA.out).1 g (m * 5 + 1) (by simp; omega); have je2 := (bcell HBA.out).1 g (m * 5 + 2) (by simp; omega); have je3 := (bcell HBA.out).1 g (m * 5 + 3) (by simp; omega); have je4 := (bcell HBA.out).1 g (m * 5 + 4) (by simp; omega); have jq0 := (bcell HBA.out).1 w1.heap.size 0 (by simp; omega); have jf0 := (bcell HBA.out).2 w1.heap.size 0 (by simp; omega); have jq1 := (bcell HBA.out).1 w1.heap.size 1 (by simp; omega); have jf1 := (bcell HBA.out).2 w1.heap.size 1 (by simp; omega); have jq2 := (bcell HBA.out).1 w1.heap.size 2 (by simp; omega); have jf2 := (bcell HBA.out).2 w1.heap.size 2 (by simp; omega); have jq3 := (bcell HBA.out).1 w1.heap.size 3 (by simp; omega); have jf3 := (bcell HBA.out).2 w1.heap.size 3 (by simp; omega); have jq4 := (bcell HBA.out).1 w1.heap.size 4 (by simp; omega); have jf4 := (bcell HBA.out).2 w1.heap.size 4 (by simp; omega)))
      all_goals
       have HKN := hid (kids_newH (w1 := wr.drew) (F := fun q => W1.heap.size ≤ q) wr.heap.size rfl [(T, .slice a3 T.kids.length c3), (x, .slice a l c)] (by simp) (by show W1.heap.size ≤ _; omega) (by
        intro p hp; simp only [List.mem_cons, or_false, List.not_mem_nil] at hp
        rcases hp with rfl | rfl
        ·exact (HKE.out.weak (fun q hq _ => hq.1)).pastF (Below.refl _ _).drew
        ·exact HKX.out.pastF (Below.refl _ _).drew) _ rfl 2 rfl HBA.out)
       have HLy := hid ((HLx.out.drew.past ((Below.refl _ _).alloc (Nat.le_refl _) _)).past HBA.out); obtain ⟨V6, hV6, HL6⟩ := HLy.out.put (Sy.nd 16 T.pos [T, x]) HKN.out (by omega) (by omega) (by omega) (by omega) 16 T.pos 0 ⟨#[]⟩ rfl rfl rfl rfl; have HV6 := hid hV6; clear hV6
       go_wp2_with fail
       rw [HV6.out]
       go_roundg m
       case measure => omega
       case rel => exact ⟨_, rfl, by omega, HL6, HC2⟩
end Go.Proofs.Ytejciampbnfbhaa
