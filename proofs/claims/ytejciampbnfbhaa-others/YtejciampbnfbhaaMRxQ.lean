import Derived.Test.YtejciampbnfbhaaRxN
import Derived.Test.YtejciampbnfbhaaMRdT
import Derived.Deep.RegionLaw
set_option linter.unusedVariables false
set_option linter.unusedSimpArgs false
set_option maxRecDepth 100000
set_option maxHeartbeats 4000000
namespace Go.Proofs.Ytejciampbnfbhaa
open Go.RowKit
theorem lv_putE {w w2 : World} {b A R lo e d : Nat} {s : ByteArray} {z : Sy.Env} {S : Sy.RS} {o0 o1 o2 o3 o4 r0 r1 r2 r3 r4 : Value} (hA : Blk w2 A [o0, o1, o2, o3, o4]) (hR : Blk w2 R [r0, r1, r2, r3, r4])
  (h1 : R ≠ A) (h2 : b ≠ A) (h4 : w.heap.size ≤ A) (hr : Rd w2 b s z S e d) (T : Sy.Tr) {a : Option Addr} {l c : Nat} (hk : Kids w2 (Fr lo A) (.slice a l c) T.kids) (hkp : Kp b w w2)
  (kk pp nn : Int) (xx : ByteArray) (e1 : kk = T.kind) (e2 : pp = T.pos) (e3 : xx = ⟨T.name.toArray⟩) (e4 : nn = T.num) :
  ∃ W, ((((w2.setCell ⟨A, 0, none⟩ (.int .i64 kk)).setCell ⟨A, 1, none⟩ (.int .i64 pp)).setCell ⟨A, 2, none⟩ (.string xx)).setCell ⟨A, 3, none⟩ (.int .i64 nn)).setCell ⟨A, 4, none⟩ (.slice a l c) = W ∧
   Hid (Blk W A [.int .i64 kk, .int .i64 pp, .string xx, .int .i64 nn, .slice a l c]) ∧ Hid (Kids W (Fr lo A) (.slice a l c) T.kids) ∧ Hid (Blk W R [r0, r1, r2, r3, r4]) ∧ Hid (Rd W b s z S e d) ∧ Hid (Kp b w W) := by
 subst e1 e2 e3 e4
 refine ⟨_, rfl, hA.store _ _ _ _ _, ?_, hR.of_heap (sto5_heap _ _ _ _ _ _ _ _ h1), hr.of_heap (sto5_heap _ _ _ _ _ _ _ _ h2), sto5_kp hkp h4 _ _ _ _ _⟩
 exact hk.carry (fun g hg _ => sto5_heap _ _ _ _ _ _ _ _ hg.2) (fun g hg _ => hg)
structure Ty (w : World) (b A R lo lp : Nat) (s : ByteArray) (z : Sy.Env) (T : Sy.Tr) (a : Option Addr) (l c : Nat) (S : Sy.RS) (e d : Nat) (v : Value) (ls : List (Sy.Tr × Value)) (W : World) : Prop where
 row : RowS W lp v ls
 cells : Blk W A [.int .i64 T.kind, .int .i64 T.pos, .string ⟨T.name.toArray⟩, .int .i64 T.num, .slice a l c]
 kids : Kids W (fun g => (lo ≤ g ∧ g ≠ A) ∧ g < lp) (.slice a l c) T.kids
 res : ∃ r0 r1 r2 r3 r4, Blk W R [r0, r1, r2, r3, r4]
 rd : Rd W b s z S e d
 kp : Kp b w W
 size : lp ≤ W.heap.size
theorem Ty.step {w W W' : World} {b A R lo lp e d l c : Nat} {s : ByteArray} {z : Sy.Env} {T : Sy.Tr} {a : Option Addr} {S S' : Sy.RS} {v : Value} {ls : List (Sy.Tr × Value)} (h : Ty w b A R lo lp s z T a l c S e d v ls W) (hr : Rd W' b s z S' e d) (hk : Kp b W W') (h1 : A ≠ b) (h2 : R ≠ b) (h3 : b < lo) (h4 : lo ≤ lp) : Ty w b A R lo lp s z T a l c S' e d v ls W' := by
 obtain ⟨h5, h6, h7, ⟨r0, r1, r2, r3, r4, h8⟩, _, h9, h10⟩ := h
 exact ⟨h5.kp hk (by omega), h6.kp hk h1, h7.kpF hk (fun g hg => by have := hg.1.1; omega), ⟨r0, r1, r2, r3, r4, h8.kp hk h2⟩, hr, h9.trans hk, Nat.le_trans h10 hk.size⟩
theorem Ty.past {w W W' : World} {b A R lo lp e d l c : Nat} {s : ByteArray} {z : Sy.Env} {T : Sy.Tr} {a : Option Addr} {S : Sy.RS} {v : Value} {ls : List (Sy.Tr × Value)} (h : Ty w b A R lo lp s z T a l c S e d v ls W) (hk : Below W.heap.size W W') : Ty w b A R lo lp s z T a l c S e d v ls W' := by
 obtain ⟨h5, h6, h7, ⟨r0, r1, r2, r3, r4, h8⟩, h11, h9, h10⟩ := h
 exact ⟨h5.past hk, h6.past hk, h7.pastF hk, ⟨r0, r1, r2, r3, r4, h8.past hk⟩, h11.below hk h11.lt, h9.below hk, Nat.le_trans h10 hk.size⟩
theorem Ty.app {w W W' : World} {b A R lo lp e d l c g cap : Nat} {s : ByteArray} {z : Sy.Env} {T : Sy.Tr} {a : Option Addr} {S : Sy.RS} {v : Value} {ls : List (Sy.Tr × Value)} {T2 : Sy.Tr} {kv : Value} (h : Ty w b A R lo lp s z T a l c S e d v ls W) (hA : A < lp) (hR : R < lp) (hb : b < lp) (hw : w.heap.size ≤ lp)
  (ho : W'.ownsRow lp 35 5 (.slice (some ⟨g, 0, none⟩) (ls.length + 1) cap) (ls.length + 1) (rowCells ls ++ nodeCells T2 kv)) (hg : W.grownBy W' v.ownBlock) (hat : v.ownBlock = some g ∨ g = W.heap.size) (hk : Kids W (Fo lp v) kv T2.kids) :
  Ty w b A R lo lp s z T a l c S e d (.slice (some ⟨g, 0, none⟩) (ls.length + 1) cap) (ls ++ [(T2, kv)]) W' := by
 obtain ⟨h5, h6, h7, ⟨r0, r1, r2, r3, r4, h8⟩, h11, h9, h10⟩ := h
 have hne : ∀ q, q < lp → some q ≠ v.ownBlock := fun q hq e => by
  have := (h5.own.lt q e.symm).1
  omega
 refine ⟨h5.app ho hg hat hk, h6.of_heap (hg.block A h6.lt (hne A hA)), h7.carry (fun q hq hlt => hg.block q hlt (hne q hq.2)) (fun _ hq _ => hq), ⟨r0, r1, r2, r3, r4, h8.of_heap (hg.block R h8.lt (hne R hR))⟩, h11.of_heap (hg.block b h11.lt (hne b hb)), ?_, Nat.le_trans h10 hg.size⟩
 exact ⟨hg.os.trans h9.os, hg.tape.trans h9.tape, hg.output.trans h9.output, Nat.le_trans h9.size hg.size, fun i hi hn => (hg.block i (Nat.lt_of_lt_of_le hi h9.size) (hne i (by omega))).trans (h9.block i hi hn)⟩
theorem rowCells_one {W : World} {F : Nat → Prop} {ls : List (Sy.Tr × Value)} (h : ∀ p ∈ ls, Kids W F p.2 p.1.kids) : ∀ u ∈ rowCells ls, u.oneCell' = true := by
 intro u hu
 unfold rowCells at hu
 obtain ⟨p, hp, hu⟩ := List.mem_flatMap.1 hu
 obtain ⟨a, c, e⟩ := (h p hp).slice
 rw [e] at hu
 exact node_one _ _ _ _ u hu
theorem RowS.news {W : World} {lo g n cap : Nat} {ls : List (Sy.Tr × Value)} (h : RowS W lo (.slice (some ⟨g, 0, none⟩) n cap) ls) : ∀ j u, (rowCells ls)[j]? = some u → W.cell? ((⟨g, 0, none⟩ : Addr).add j) = some u := fun j u hu => h.own.cells rfl j u hu
theorem kids_join {W W' : World} {F : Nat → Prop} {lo base g H n cap : Nat} (l1 l2 : List (Sy.Tr × Value)) (h0 : l1 ++ l2 ≠ []) (hown : W'.ownsRow base 35 5 (.slice (some ⟨g, 0, none⟩) n cap) n (rowCells l1 ++ rowCells l2)) (hn : n = (l1 ++ l2).length)
  (hg : W.grownBy W' (some H)) (hF : F g) (hFH : ∀ q, F q → q < lo → q ≠ H) (hk : ∀ p ∈ l1 ++ l2, Kids W (fun q => F q ∧ q < lo) p.2 p.1.kids) : Kids W' F (.slice (some ⟨g, 0, none⟩) n cap) ((l1 ++ l2).map (·.1)) := by
 subst hn
 have hcap : (l1 ++ l2).length ≤ cap := by
  rcases hown.2 with ⟨h1, _⟩ | ⟨g', cap', cur, h1, _, _, h4, _⟩
  ·cases h1
  ·simp only [Value.slice.injEq] at h1
   omega
 refine kids_lit (l1 ++ l2) hF h0 hcap ?_ (fun p hp => (hk p hp).carry (fun q hq hlt => hg.block q hlt (fun e => hFH q hq.1 hq.2 (Option.some.inj e))) (fun q hq _ => hq.1))
 intro j v hj
 have e1 : rowCells (l1 ++ l2) = rowCells l1 ++ rowCells l2 := by simp [rowCells]
 rw [e1] at hj
 have h3 := hown.cells (g := g) rfl _ _ hj
 have e : (⟨g, 0, none⟩ : Addr).add j = ⟨g, j, none⟩ := by unfold Addr.add; split <;> simp_all
 rw [e] at h3
 exact h3
theorem typ_bad (N k : Nat) (w : World) (b : Nat) (s : ByteArray) (z : Sy.Env) (S : Sy.RS) (e d : Nat) (h : Rd w b s z S e d) (ho : Sy.okA S = false) :
  Calls Try.prog 19 #[.pointer (some ⟨b, 0, none⟩)] w fun en w' => NRes w b s z (Sy.typA z N k S) e d en w' := by
 have H := hid h
 have hlt := h.lt
 clear h
 have HX : Hid (Sy.typA z N k S = (Sy.zT, S)) := by cases k <;> simp [Hid, Sy.typA, ho]
 go_enter Try.func19, Try.ntmps19
 go_wp2_with fail
 obtain ⟨W0, hW0, HI⟩ := in1 H.out 35
 rw [hW0]
 have HW0 := hid hW0
 clear hW0
 have hz0 := HI.out.size
 refine (ok_q _ b s z S e d HI.out.rd).mono ?_
 rintro en w' ⟨rfl, rfl⟩
 obtain ⟨⟨u0, u1, u2, u3, u4⟩, u5, u6, u7, u8, u9⟩ := blk5 HI.out.one
 go_wp2_with fail
 refine bodyPost_ret (v := .agg #[.int .i64 0, .int .i64 0, .string ⟨#[]⟩, .int .i64 0, .slice none 0 0]) (by simp [results, Try.results19, go_sem, u0, u1, u2, u3, u4]) rfl ?_
 exact nres_fin (lo := W0.heap.size) Sy.zT S .nil HI.out.rd HI.out.kp HX.out (by omega) (by omega) (by omega) _ _ _ _ rfl rfl rfl rfl _ _ _ _ _
theorem typ_deep (N : Nat) (w : World) (b : Nat) (s : ByteArray) (z : Sy.Env) (S : Sy.RS) (e : Nat) (h : Rd w b s z S e 200) (ho : Sy.okA S = true) :
  Calls Try.prog 19 #[.pointer (some ⟨b, 0, none⟩)] w fun en w' => NRes w b s z (Sy.typA z N 0 S) e 200 en w' := by
 have H := hid h
 have hlt := h.lt
 clear h
 have HX : Hid (Sy.typA z N 0 S = (Sy.zT, ⟨S.t, S.rest, (5, S.t.pos)⟩)) := by simp [Hid, Sy.typA, Sy.deepA, ho]
 go_enter Try.func19, Try.ntmps19
 go_wp2_with fail
 obtain ⟨W0, hW0, HI⟩ := in1 H.out 35
 rw [hW0]
 have HW0 := hid hW0
 clear hW0
 have hz0 := HI.out.size
 refine (ok_q _ b s z S e 200 HI.out.rd).mono ?_
 rintro en w' ⟨rfl, rfl⟩
 obtain ⟨p1, hb1, _⟩ := HI.out.rd.cells
 have c1_2 := (hb1 2 _ rfl).1
 have c1_6 := (hb1 6 _ rfl).1
 have c1_7 := (hb1 7 _ rfl).1
 have c1_9 := (hb1 9 _ rfl).1
 clear hb1
 obtain ⟨p9, hb9, _⟩ := HI.out.rd.cells
 have f6 := (hb9 6 _ rfl).2
 have f7 := (hb9 7 _ rfl).2
 clear hb9
 obtain ⟨⟨u0, u1, u2, u3, u4⟩, u5, u6, u7, u8, u9⟩ := blk5 HI.out.one
 have hne : w.heap.size ≠ b := by omega
 have hne2 : ¬ b = w.heap.size := by omega
 go_wp2_with fail
 refine bodyPost_ret (v := .agg #[.int .i64 0, .int .i64 0, .string ⟨#[]⟩, .int .i64 0, .slice none 0 0]) (by simp [results, Try.results19, go_sem, u0, u1, u2, u3, u4]) rfl ?_
 exact nres_fin (lo := W0.heap.size) Sy.zT ⟨S.t, S.rest, (5, S.t.pos)⟩ .nil (HI.out.rd.fault (by decide) rfl) ((HI.out.kp.set _ _).set _ _) HX.out (by omega) (by omega) (by omega) _ _ _ _ rfl rfl rfl rfl _ _ _ _ _
theorem typ_go (N k : Nat) (hN : N ≤ 90000) (hk : k + 1 ≤ 200) (hT : TypOK N k) (w : World) (b : Nat) (s : ByteArray) (z : Sy.Env) (S : Sy.RS) (e : Nat) (h : Rd w b s z S e (200 - (k + 1))) (hm : Sy.mu S < N) (ho : Sy.okA S = true) :
  Calls Try.prog 19 #[.pointer (some ⟨b, 0, none⟩)] w fun en w' => NRes w b s z (Sy.typA z N (k + 1) S) e (200 - (k + 1)) en w' := by
 have H := hid h
 have HM := hid hm
 have hlt := h.lt
 clear h hm
 obtain ⟨i0, hi, hiz0, hiz1, hiz2⟩ := info_parts Try.info36
 obtain ⟨ee, hee⟩ : ∃ ee, ee = 200 - (k + 1) := ⟨_, rfl⟩
 have hle : ee < 200 := by omega
 have HEE : Hid (200 - k = ee + 1) := by simp only [Hid]; omega
 rw [← hee] at H ⊢
 have HXT : Hid (Sy.typA z N (k + 1) S = Sy.typBodyA z N (Sy.typA z N k) S) := by simp [Hid, Sy.typA, ho]
 have HMU1 := hid (Sy.mu_pair z N (Sy.mu_typ z N k) N S)
 clear hee
 go_enter Try.func19, Try.ntmps19
 go_wp2_with fail
 obtain ⟨W0, hW0, HI⟩ := in1 H.out 35
 rw [hW0]
 have HW0 := hid hW0
 clear hW0
 have hz0 := HI.out.size
 refine (ok_q _ b s z S e ee HI.out.rd).mono ?_
 rintro en w' ⟨rfl, rfl⟩
 obtain ⟨p9, hb9, _⟩ := HI.out.rd.cells
 have c9 := (hb9 9 _ rfl).1
 have f9 := (hb9 9 _ rfl).2
 clear hb9
 go_wp2_with fail
 have HR1 : Hid (Rd (W0.setCell ⟨b, 9, none⟩ (.int .i64 ((ee : Int) + 1))) b s z S e (200 - k)) := by rw [HEE.out]; exact HI.out.rd.typ (ee + 1) _ (by omega)
 have HKS := hid (Kp.set (Kp.refl b W0) 9 (.int .i64 ((ee : Int) + 1)))
 have hs1 : (W0.setCell ⟨b, 9, none⟩ (.int .i64 ((ee : Int) + 1))).heap.size = W0.heap.size := by simp [go_sem]
 have HRS0 := hid (HI.out.one.kp HKS.out (by omega))
 have HKA0 := hid (HI.out.kp.trans HKS.out)
 generalize hW1 : W0.setCell ⟨b, 9, none⟩ (.int .i64 ((ee : Int) + 1)) = W1 at *
 clear hW1
 refine (pair_m N k hT N W1 b s z S e HR1.out HM.out HM.out).mono ?_
 rintro en w2 ⟨a2, l2, c2, rfl, HKd2, HR2, HK2⟩
 generalize hy2 : Sy.pairA z N (Sy.typA z N k) N S = y2 at *
 have HY2 := hid hy2
 clear hy2
 obtain ⟨W2, hW2, HV2, HRd2, HKp2, hs2, ht2⟩ := var_new HKd2.out HR2.out HK2.out 35
 have HRS2 := hid (HRS0.out.kp HKp2.out (by omega))
 have HKA2 := hid (HKA0.out.trans HKp2.out)
 cases h1 : Sy.isA Sy.s_arrow y2.2 with
 | false =>
  cases h2 : Sy.isA Sy.s_minus y2.2 with
  | false =>
   have HX : Hid (Sy.typA z N (k + 1) S = (y2.1, y2.2)) := by rw [Hid, HXT.out]; simp [Sy.typBodyA, HY2.out, h1, h2]
   go_wp2_with fail
   try rw [hW2]
   clear hW2; refine (has_no _ b s z y2.2 e (200 - k) Sy.s_arrow HRd2.out h1).mono ?_; rintro en w' ⟨rfl, rfl⟩
   go_wp2_with fail
   refine (has_no _ b s z y2.2 e (200 - k) Sy.s_minus HRd2.out h2).mono ?_; rintro en w' ⟨rfl, rfl⟩; obtain ⟨⟨q2_0, q2_1, q2_2, q2_3, q2_4⟩, q2_5, q2_6, q2_7, q2_8, q2_9⟩ := blk5 HV2.out.cells; obtain ⟨pz, hbz, _⟩ := HRd2.out.cells; have d9 := (hbz 9 _ rfl).1; have g9 := (hbz 9 _ rfl).2; clear hbz; rw [HEE.out] at d9; have hne : w.heap.size ≠ b := by omega
   have hne2 : ¬ b = w.heap.size := by omega
   have hne3 : ¬ b = w2.heap.size := by omega
   have hne4 : w2.heap.size ≠ b := by omega
   obtain ⟨⟨u0, u1, u2, u3, u4⟩, u5, u6, u7, u8, u9⟩ := blk5 HRS2.out
   go_wp2_with fail
   refine bodyPost_ret (v := .agg #[.int .i64 y2.1.kind, .int .i64 y2.1.pos, .string ⟨y2.1.name.toArray⟩, .int .i64 y2.1.num, .slice a2 l2 c2]) (by simp [results, Try.results19, go_sem, u0, u1, u2, u3, u4]) rfl ?_; exact nres_fin (lo := W0.heap.size) y2.1 y2.2 ((HV2.out.kids.free (hi := W0.heap.size) (by omega)).kp (Kp.set (Kp.refl b _) _ _) (by omega) (Nat.le_refl _)) (HRd2.out.typ ee _ rfl) (HKA2.out.set _ _) HX.out (by omega) (by omega) (by omega) _ _ _ _ rfl rfl rfl rfl _ _ _ _ _
  | true =>
   have HMA : Hid (Sy.mu (Sy.nextA z y2.2) < N) := by have h3 := Sy.mu_is z h2; have h4 := HMU1.out; have h5 := HM.out; simp only [Hid]; omega
   go_wp2_with fail
   try rw [hW2]
   clear hW2; refine (has_no _ b s z y2.2 e (200 - k) Sy.s_arrow HRd2.out h1).mono ?_; rintro en w' ⟨rfl, rfl⟩
   go_wp2_with fail
   refine (has_yes _ b s z y2.2 e (200 - k) Sy.s_minus HRd2.out h2).mono ?_; rintro en w3 ⟨rfl, hr3, hk3⟩; have HR3 := hid hr3; have HK3 := hid hk3; clear hr3 hk3; have HV2x3 := hid (HV2.out.kp HK3.out (by omega) (by omega)); have HRS3 := hid (HRS2.out.kp HK3.out (by omega)); have HKA3 := hid (HKA2.out.trans HK3.out); have ht3 := HK3.out.size
   go_wp2_with fail
   refine (must_m _ b s z (Sy.nextA z y2.2) e (200 - k) Sy.s_lb HR3.out).mono ?_; rintro en w4 ⟨rfl, hr4, hk4⟩; have HR4 := hid hr4; have HK4 := hid hk4; clear hr4 hk4; have HV2x4 := hid (HV2x3.out.kp HK4.out (by omega) (by omega)); have HRS4 := hid (HRS3.out.kp HK4.out (by omega)); have HKA4 := hid (HKA3.out.trans HK4.out); have ht4 := HK4.out.size
   go_wp2_with fail
   have HMY : Hid (Sy.mu (Sy.mustA z Sy.s_lb (Sy.nextA z y2.2)) < N) := Nat.lt_of_le_of_lt (Sy.mu_must z _ _) HMA.out; have HTOT : Hid (Sy.typA z N (k + 1) S = (Sy.nd 29 y2.1.pos ([y2.1, (Sy.typA z N k (Sy.mustA z Sy.s_arrow (Sy.mustA z Sy.s_rb (Sy.rowA z N [] (Sy.mustA z Sy.s_lb (Sy.nextA z y2.2))).2))).1] ++ (Sy.rowA z N [] (Sy.mustA z Sy.s_lb (Sy.nextA z y2.2))).1), (Sy.typA z N k (Sy.mustA z Sy.s_arrow (Sy.mustA z Sy.s_rb (Sy.rowA z N [] (Sy.mustA z Sy.s_lb (Sy.nextA z y2.2))).2))).2)) := by rw [Hid, HXT.out]; simp [Sy.typBodyA, HY2.out, h1, h2]
   generalize hcl : Sy.rowA z N [] (Sy.mustA z Sy.s_lb (Sy.nextA z y2.2)) = cl at *; have HCL := hid hcl; clear hcl; have HL : Hid (Ty w b w2.heap.size w.heap.size W0.heap.size w4.heap.size s z y2.1 a2 l2 c2 (Sy.mustA z Sy.s_lb (Sy.nextA z y2.2)) e (200 - k) (.slice none 0 0) [] w4) := ⟨RowS.nil _ _, HV2x4.out.cells, HV2x4.out.kids.weak (fun g hg hlt => ⟨⟨by have := hg.1; omega, hg.2⟩, hlt⟩), ⟨_, _, _, _, _, HRS4.out⟩, HR4.out, HKA4.out, Nat.le_refl _⟩; have hAl : w2.heap.size < w4.heap.size := HV2x4.out.cells.lt
   go_wp2_with fail
   go_loopg [5] N (fun n v wr => ∃ (ls : List (Sy.Tr × Value)) (S1 : Sy.RS), Hid (Ty w b w2.heap.size w.heap.size W0.heap.size w4.heap.size s z y2.1 a2 l2 c2 S1 e (200 - k) v ls wr) ∧ Hid (Sy.rowA z n (ls.map (·.1)) S1 = cl) ∧ Hid (Sy.mu S1 < N) ∧ Hid (Sy.mu S1 < n) ∧ Hid (ls.length + n = N))
   case atStart => exact ⟨[], _, HL, HCL, HMY, HMY, hid (by simp)⟩
   case round =>
    obtain ⟨ls, S1, HLr, HEQ, HMS, HMN, HLN⟩ := hrel; obtain ⟨m, hm⟩ : ∃ m, gk = m + 1 := ⟨gk - 1, by have := HMN.out; omega⟩; subst hm; have hzr := HLr.out.size; have HLB := hid (len_bytes (n := ls.length) (N := N) (by have := HLN.out; omega) (by omega))
    go_wp2_with fail
    refine (name_m _ b s z S1 e (200 - k) HLr.out.rd).mono ?_; rintro en w21 ⟨rfl, hr21, hk21⟩; have HL1 := hid (HLr.out.step hr21 hk21 (by omega) (by omega) (by omega) (by omega)); clear hr21 hk21; have HMq := hid (Sy.mu_name z S1); generalize hq : Sy.nameA z S1 = q at *; have HQ := hid hq; clear hq
    go_wp2_with fail
    refine (named_m _ _ _ _ _ _ _).mono ?_; rintro en w22 ⟨rfl, HB22⟩; have HL2 := hid (HL1.out.past HB22.out); have HL3 := hid (HL2.out.past ((Below.refl _ _).alloc (Nat.le_refl _) (.cells #[.int .i64 23, .int .i64 q.1.2, .string ⟨q.1.1.toArray⟩, .int .i64 0, .slice none 0 0] 35))); have HNW := hid (node_news (w := w22) (T := Sy.nm 23 q.1.2 q.1.1 []) (a := none) (l := 0) (c := 0) (ty := 35) (H := w22.heap.size) rfl); have hb3 : w4.heap.size ≤ (w22.alloc (.cells #[.int .i64 23, .int .i64 q.1.2, .string ⟨q.1.1.toArray⟩, .int .i64 0, .slice none 0 0] 35)).heap.size := HL3.out.size
    go_wp2_with (at_builtin; go_must (refine wpList_append_lies _ rfl _ _ 33 rfl w4.heap.size 35 i0 (.agg #[.int .i64 0, .int .i64 0, .string ⟨#[]⟩, .int .i64 0, .slice none 0 0]) 5 64 Try.underlying33 hi hiz0 hiz1 hiz2 rfl (by decide) u5 ls.length (rowCells ls) rfl HL3.out.row.own ⟨w22.heap.size, 0, none⟩ 1 1 (nodeCells (Sy.nm 23 q.1.2 q.1.1 []) (.slice none 0 0)) rfl rfl HNW.out (node_one _ _ _ _) (by decide) HLB.out.1 HLB.out.2 hb3 _ rfl ?_); intro g cap w3 hown hgrow hat hlt3)
    have HL4 := hid (HL3.out.app (T2 := Sy.nm 23 q.1.2 q.1.1 []) (kv := .slice none 0 0) (by omega) (by omega) (by omega) (by omega) hown hgrow hat .nil); clear hown hgrow hat; generalize hls : ls ++ [(Sy.nm 23 q.1.2 q.1.1 [], (.slice none 0 0 : Value))] = ls2 at *; have HLS := hid hls; have hll : ls2.length = ls.length + 1 := by rw [← hls]; simp
    clear hls
    cases hc : Sy.isA Sy.s_comma q.2 with
    | true =>
     have HEQ2 : Hid (Sy.rowA z m (ls2.map (·.1)) (Sy.nextA z q.2) = cl) := by
      rw [Hid, ← HEQ.out, Sy.rowA, HQ.out, ← HLS.out]
      simp [hc]
     have HM3 := hid (Sy.mu_is z hc); refine (has_yes _ b s z q.2 e (200 - k) Sy.s_comma HL4.out.rd hc).mono ?_; rintro en w4z ⟨rfl, HR4, HK4⟩; have HL5 := hid (HL4.out.step HR4.out HK4.out (by omega) (by omega) (by omega) (by omega))
     go_wp2_with fail
     go_roundg m
     case measure => omega
     case rel =>
      refine ⟨ls2, _, HL5, HEQ2, ?_, ?_, ?_⟩
      ·have h1 := HM3.out; have h2 := HMq.out; have h3 := HMS.out; simp only [Hid]; omega
      ·have h1 := HM3.out; have h2 := HMq.out; have h3 := HMN.out; simp only [Hid]; omega
      ·have h1 := HLN.out; simp only [Hid]; omega
    | false =>
     have HCE : Hid (cl = (ls2.map (·.1), q.2)) := by rw [Hid, ← HEQ.out, Sy.rowA, HQ.out, ← HLS.out]; simp [hc]
     refine (has_no _ b s z q.2 e (200 - k) Sy.s_comma HL4.out.rd hc).mono ?_; rintro en w' ⟨rfl, rfl⟩
     go_wp2_with fail
     refine (must_m _ b s z _ e (200 - k) Sy.s_rb HL4.out.rd).mono ?_; rintro en w5z ⟨rfl, hr5, hk5⟩; have HL5 := hid (HL4.out.step hr5 hk5 (by omega) (by omega) (by omega) (by omega)); clear hr5 hk5
     go_wp2_with fail
     refine (must_m _ b s z _ e (200 - k) Sy.s_arrow HL5.out.rd).mono ?_; rintro en w6z ⟨rfl, hr6, hk6⟩; have HL6 := hid (HL5.out.step hr6 hk6 (by omega) (by omega) (by omega) (by omega)); clear hr6 hk6
     go_wp2_with fail
     have HMT : Hid (Sy.mu (Sy.mustA z Sy.s_arrow (Sy.mustA z Sy.s_rb q.2)) < N) := by have h1 := Sy.mu_must z Sy.s_arrow (Sy.mustA z Sy.s_rb q.2); have h2 := Sy.mu_must z Sy.s_rb q.2; have h3 := HMq.out; have h4 := HMS.out; simp only [Hid]; omega
     refine (hT w6z b s z (Sy.mustA z Sy.s_arrow (Sy.mustA z Sy.s_rb q.2)) e HL6.out.rd HMT.out).mono ?_; rintro en w7 ⟨a7, l7, c7, rfl, HKd7, HR7, HK7⟩; have HX : Hid (Sy.typA z N (k + 1) S = (Sy.nd 29 y2.1.pos ([y2.1, (Sy.typA z N k (Sy.mustA z Sy.s_arrow (Sy.mustA z Sy.s_rb q.2))).1] ++ ls2.map (·.1)), (Sy.typA z N k (Sy.mustA z Sy.s_arrow (Sy.mustA z Sy.s_rb q.2))).2)) := by rw [Hid, HTOT.out, HCE.out]
     generalize hy7 : Sy.typA z N k (Sy.mustA z Sy.s_arrow (Sy.mustA z Sy.s_rb q.2)) = y7 at *; clear hy7; obtain ⟨W7, hW7, HV7, HRd7, HKp7, hs7, ht7⟩ := var_new HKd7.out HR7.out HK7.out 35; have HL7 := hid (HL6.out.step HRd7.out HKp7.out (by omega) (by omega) (by omega) (by omega)); have hz6 := HL6.out.size; obtain ⟨⟨q0, q1, q2, q3, q4⟩, q5, q6, q7, q8, q9⟩ := blk5 HV7.out.cells; obtain ⟨⟨m0, m1, m2, m3, m4⟩, m5, m6, m7, m8, m9⟩ := blk5 HL7.out.cells
     go_wp2_with fail
     try rw [hW7]
     clear hW7; have hg7 : g < W7.heap.size := (HL7.out.row.own.lt g rfl).2; have hg8 : w4.heap.size ≤ g := (HL7.out.row.own.lt g rfl).1; have HRL := hid (rowS_lit (W := W7.drew) (lo := W0.heap.size) [(y2.1, .slice a2 l2 c2), (y7.1, .slice a7 l7 c7)] (by simp) (w7.heap.size + 1) hs7 _ rfl 2 rfl (by decide) (by omega) (by intro p hp; simp only [List.mem_cons, or_false, List.not_mem_nil] at hp; rcases hp with rfl | rfl; exact (HL7.out.kids.weak (fun q hq _ => hq.1.1)).pastF (Below.refl _ _).drew; exact (HV7.out.kids.free (by omega)).pastF (Below.refl _ _).drew)); have HRX := hid ((HL7.out.row.past (Below.refl _ _).drew).alloc (.cells #[.int .i64 y2.1.kind, .int .i64 y2.1.pos, .string ⟨y2.1.name.toArray⟩, .int .i64 y2.1.num, .slice a2 l2 c2, .int .i64 y7.1.kind, .int .i64 y7.1.pos, .string ⟨y7.1.name.toArray⟩, .int .i64 y7.1.num, .slice a7 l7 c7] 35)); have HON := hid (rowCells_one HRX.out.kids); have hl3 : (rowCells ls2).length = (ls.length + 1) * 5 := by rw [rowCells_len, hll]
     have HLC := hid (len_bytes (n := 2 + ls.length) (N := N + 3) (by have := HLN.out; omega) (by omega)); have hA7 : w2.heap.size < W7.heap.size := HL7.out.cells.lt; have hA7b : w2.heap.size < w7.heap.size + 1 := by omega
     have hneA : ¬ w2.heap.size = w7.heap.size + 1 := by omega
     go_region_law (first | (refine step_append_lies _ (by rfl) _ _ 33 (by rfl) W0.heap.size 35 i0 (.agg #[.int .i64 0, .int .i64 0, .string ⟨#[]⟩, .int .i64 0, .slice none 0 0]) 5 64 Try.underlying33 hi hiz0 hiz1 hiz2 rfl (by decide) (.slice (some ⟨w7.heap.size + 1, 0, none⟩) 2 2) 2 (rowCells [(y2.1, .slice a2 l2 c2), (y7.1, .slice a7 l7 c7)]) (by rfl) HRL.out.own ⟨g, 0, none⟩ (ls.length + 1) cap (rowCells ls2) (by rfl) hl3 HRX.out.news HON.out (by omega) (by have := HLC.out.1; omega) (by have := HLC.out.2; omega) (by simp; omega) _ rfl ?_; intro gj capj w8 hown hgrow hat hlt9; have hz8 := hgrow.size; (try simp at hz8); have lA8 : w2.heap.size < w8.heap.size := (by omega); have jm0 := World.cell?_of_block (a := ⟨w2.heap.size, 0, none⟩) (hgrow.block w2.heap.size (by simp; omega) (by intro e; have e2 : w2.heap.size = w7.heap.size + 1 := (by simpa [Value.ownBlock] using e); omega)); have jx0 := World.frozen?_of_block (a := ⟨w2.heap.size, 0, none⟩) (hgrow.block w2.heap.size (by simp; omega) (by intro e; have e2 : w2.heap.size = w7.heap.size + 1 := (by simpa [Value.ownBlock] using e); omega)); have jm1 := World.cell?_of_block (a := ⟨w2.heap.size, 1, none⟩) (hgrow.block w2.heap.size (by simp; omega) (by intro e; have e2 : w2.heap.size = w7.heap.size + 1 := (by simpa [Value.ownBlock] using e); omega)); have jx1 := World.frozen?_of_block (a := ⟨w2.heap.size, 1, none⟩) (hgrow.block w2.heap.size (by simp; omega) (by intro e; have e2 : w2.heap.size = w7.heap.size + 1 := (by simpa [Value.ownBlock] using e); omega)); have jm2 := World.cell?_of_block (a := ⟨w2.heap.size, 2, none⟩) (hgrow.block w2.heap.size (by simp; omega) (by intro e; have e2 : w2.heap.size = w7.heap.size + 1 := (by simpa [Value.ownBlock] using e); omega)); have jx2 := World.frozen?_of_block (a := ⟨w2.heap.size, 2, none⟩) (hgrow.block w2.heap.size (by simp; omega) (by intro e; have e2 : w2.heap.size = w7.heap.size + 1 := (by simpa [Value.ownBlock] using e); omega)); have jm3 := World.cell?_of_block (a := ⟨w2.heap.size, 3, none⟩) (hgrow.block w2.heap.size (by simp; omega) (by intro e; have e2 : w2.heap.size = w7.heap.size + 1 := (by simpa [Value.ownBlock] using e); omega)); have jx3 := World.frozen?_of_block (a := ⟨w2.heap.size, 3, none⟩) (hgrow.block w2.heap.size (by simp; omega) (by intro e; have e2 : w2.heap.size = w7.heap.size + 1 := (by simpa [Value.ownBlock] using e); omega)); have jm4 := World.cell?_of_block (a := ⟨w2.heap.size, 4, none⟩) (hgrow.block w2.heap.size (by simp; omega) (by intro e; have e2 : w2.heap.size = w7.heap.size + 1 := (by simpa [Value.ownBlock] using e); omega)); have jx4 := World.frozen?_of_block (a := ⟨w2.heap.size, 4, none⟩) (hgrow.block w2.heap.size (by simp; omega) (by intro e; have e2 : w2.heap.size = w7.heap.size + 1 := (by simpa [Value.ownBlock] using e); omega))) | (go_simp; go_at_call 15; refine (node_m _ _ _ _ _ _).mono ?_; rintro en w9 ⟨rfl, HB9⟩; have jn0 := (bcell HB9.out).1 w2.heap.size 0 lA8; have jy0 := (bcell HB9.out).2 w2.heap.size 0 lA8; have jn1 := (bcell HB9.out).1 w2.heap.size 1 lA8; have jy1 := (bcell HB9.out).2 w2.heap.size 1 lA8; have jn2 := (bcell HB9.out).1 w2.heap.size 2 lA8; have jy2 := (bcell HB9.out).2 w2.heap.size 2 lA8; have jn3 := (bcell HB9.out).1 w2.heap.size 3 lA8; have jy3 := (bcell HB9.out).2 w2.heap.size 3 lA8; have jn4 := (bcell HB9.out).1 w2.heap.size 4 lA8; have jy4 := (bcell HB9.out).2 w2.heap.size 4 lA8; dsimp only))
     all_goals
      have HBX : Hid (Below W7.heap.size W7 (W7.drew.alloc (.cells #[.int .i64 y2.1.kind, .int .i64 y2.1.pos, .string ⟨y2.1.name.toArray⟩, .int .i64 y2.1.num, .slice a2 l2 c2, .int .i64 y7.1.kind, .int .i64 y7.1.pos, .string ⟨y7.1.name.toArray⟩, .int .i64 y7.1.num, .slice a7 l7 c7] 35))) := ((Below.refl _ _).drew).alloc (Nat.le_refl _) _; have HBW : Hid (Below W7.heap.size W7 w9) := (HBX.out.grown hgrow (by simp) (by intro k hk; have e2 : w7.heap.size + 1 = k := (by simpa [Value.ownBlock] using hk); omega)).trans (HB9.out.mono (Nat.le_trans HBX.out.size hgrow.size)); have hXs : W7.heap.size < (W7.drew.alloc (.cells #[.int .i64 y2.1.kind, .int .i64 y2.1.pos, .string ⟨y2.1.name.toArray⟩, .int .i64 y2.1.num, .slice a2 l2 c2, .int .i64 y7.1.kind, .int .i64 y7.1.pos, .string ⟨y7.1.name.toArray⟩, .int .i64 y7.1.num, .slice a7 l7 c7] 35)).heap.size := by simp
      have HGJ : Hid (Fr W0.heap.size w2.heap.size gj) := by
       rcases hat with hat | hat
       ·have e2 : w7.heap.size + 1 = gj := (by simpa [Value.ownBlock] using hat)
        exact ⟨by omega, by omega⟩
       ·have e3 : W7.heap.size < gj := by rw [hat]; exact hXs
        exact ⟨by omega, by omega⟩
      have HKJ := hid (kids_join (W := (W7.drew.alloc (.cells #[.int .i64 y2.1.kind, .int .i64 y2.1.pos, .string ⟨y2.1.name.toArray⟩, .int .i64 y2.1.num, .slice a2 l2 c2, .int .i64 y7.1.kind, .int .i64 y7.1.pos, .string ⟨y7.1.name.toArray⟩, .int .i64 y7.1.num, .slice a7 l7 c7] 35))) (F := Fr W0.heap.size w2.heap.size) (lo := W7.heap.size) (H := w7.heap.size + 1) [(y2.1, .slice a2 l2 c2), (y7.1, .slice a7 l7 c7)] ls2 (by simp) hown (by simp [hll]; omega) hgrow (show Fr _ _ gj from HGJ.out) (fun q _ hq => by omega) (by
       intro p hp
       rcases List.mem_append.1 hp with hp | hp
       ·simp only [List.mem_cons, or_false, List.not_mem_nil] at hp
        rcases hp with rfl | rfl
        ·exact ((HL7.out.kids.weak (fun q hq hlt => ⟨hq.1, hlt⟩)).pastF (Below.refl _ _).drew).pastF ((Below.refl _ _).alloc (Nat.le_refl _) _)
        ·exact ((HV7.out.kids.weak (fun q hq hlt => ⟨⟨by have := hq.1; omega, by have := hq.1; omega⟩, hlt⟩)).pastF (Below.refl _ _).drew).pastF ((Below.refl _ _).alloc (Nat.le_refl _) _)
       ·exact (((HL7.out.row.kids p hp).weak (fun q hq hlt => ⟨⟨by have := hq.1; omega, by have := hq.1; omega⟩, hlt⟩)).pastF (Below.refl _ _).drew).pastF ((Below.refl _ _).alloc (Nat.le_refl _) _)))
      have HT9 := hid (HL7.out.past HBW.out); obtain ⟨r0, r1, r2, r3, r4, HRS9⟩ := HT9.out.res; obtain ⟨V9, hV9, HVB, HVK, HVR, HVD, HVP⟩ := lv_putE (w := w) (lo := W0.heap.size) HT9.out.cells HRS9 (by omega) (by omega) (by omega) HT9.out.rd (Sy.nd 29 y2.1.pos ([y2.1, y7.1] ++ ls2.map (·.1))) (HKJ.out.pastF HB9.out) HT9.out.kp 29 y2.1.pos 0 ⟨#[]⟩ rfl rfl rfl rfl; rw [hV9]; have HV9q := hid hV9; clear hV9; clear jm0 jx0 jn0 jy0 jm1 jx1 jn1 jy1 jm2 jx2 jn2 jy2 jm3 jx3 jn3 jy3 jm4 jx4 jn4 jy4; obtain ⟨⟨x0, x1, x2, x3, x4⟩, x5, x6, x7, x8, x9⟩ := blk5 HVB.out; clear HRS9; obtain ⟨pz, hbz, _⟩ := HVD.out.cells; have d9 := (hbz 9 _ rfl).1; have g9 := (hbz 9 _ rfl).2; clear hbz; rw [HEE.out] at d9; have hne : w.heap.size ≠ b := by omega
      have hne2 : ¬ b = w.heap.size := by omega
      have hne3 : ¬ b = w2.heap.size := by omega
      have hne4 : w2.heap.size ≠ b := by omega
      obtain ⟨⟨u0, u1, u2, u3, u4⟩, u5, u6, u7, u8, u9⟩ := blk5 HVR.out
      go_wp2_with fail
      refine bodyPost_ret (v := .agg #[.int .i64 29, .int .i64 y2.1.pos, .string ⟨#[]⟩, .int .i64 0, .slice (some ⟨gj, 0, none⟩) (2 + (ls.length + 1)) capj]) (by simp [results, Try.results19, go_sem, u0, u1, u2, u3, u4]) rfl ?_; exact nres_fin (lo := W0.heap.size) (Sy.nd 29 y2.1.pos ([y2.1, y7.1] ++ ls2.map (·.1))) y7.2 ((HVK.out.free (hi := W0.heap.size) (Nat.le_refl _)).kp (Kp.set (Kp.refl b _) _ _) (by omega) (Nat.le_refl _)) (HVD.out.typ ee _ rfl) (HVP.out.set _ _) HX.out (by omega) (by omega) (by omega) _ _ _ _ rfl rfl rfl rfl _ _ _ _ _
 | true =>
  have HX0 : Hid (Sy.typA z N (k + 1) S = (Sy.nd 29 y2.1.pos [y2.1, (Sy.typA z N k (Sy.nextA z y2.2)).1], (Sy.typA z N k (Sy.nextA z y2.2)).2)) := by rw [Hid, HXT.out]; simp [Sy.typBodyA, HY2.out, h1]
  have HMA : Hid (Sy.mu (Sy.nextA z y2.2) < N) := by have h3 := Sy.mu_is z h1; have h4 := HMU1.out; have h5 := HM.out; simp only [Hid]; omega
  go_wp2_with fail
  try rw [hW2]
  clear hW2
  refine (has_yes _ b s z y2.2 e (200 - k) Sy.s_arrow HRd2.out h1).mono ?_
  rintro en w3 ⟨rfl, hr3, hk3⟩
  have HR3 := hid hr3
  have HK3 := hid hk3
  clear hr3 hk3
  have HV2x3 := hid (HV2.out.kp HK3.out (by omega) (by omega))
  have HRS3 := hid (HRS2.out.kp HK3.out (by omega))
  have HKA3 := hid (HKA2.out.trans HK3.out)
  have ht3 := HK3.out.size
  go_wp2_with fail
  refine (hT w3 b s z (Sy.nextA z y2.2) e HR3.out HMA.out).mono ?_
  rintro en w4 ⟨a4, l4, c4, rfl, HKd4, HR4, HK4⟩
  generalize hy4 : Sy.typA z N k (Sy.nextA z y2.2) = y4 at *
  have HY4 := hid hy4
  clear hy4
  obtain ⟨W4, hW4, HV4, HRd4, HKp4, hs4, ht4⟩ := var_new HKd4.out HR4.out HK4.out 35
  have HV2x4 := hid (HV2x3.out.kp HKp4.out (by omega) (by omega))
  have HRS4 := hid (HRS3.out.kp HKp4.out (by omega))
  have HKA4 := hid (HKA3.out.trans HKp4.out)
  obtain ⟨⟨q2_0, q2_1, q2_2, q2_3, q2_4⟩, q2_5, q2_6, q2_7, q2_8, q2_9⟩ := blk5 HV2x4.out.cells
  obtain ⟨⟨q4_0, q4_1, q4_2, q4_3, q4_4⟩, q4_5, q4_6, q4_7, q4_8, q4_9⟩ := blk5 HV4.out.cells
  go_wp2_with fail
  try rw [hW4]
  clear hW4
  refine (node_m _ _ _ _ _ _).mono ?_
  rintro en w5 ⟨rfl, HB5⟩
  have HKN5 := hid (kids_new (F := (Fr W0.heap.size w2.heap.size)) [(y2.1, .slice a2 l2 c2), (y4.1, .slice a4 l4 c4)] (by simp) (by exact ⟨by omega, by omega⟩) (by intro p hp; simp only [List.mem_cons, or_false, List.not_mem_nil] at hp; rcases hp with rfl | rfl <;> first | exact (HV2x4.out.weak (lo' := W0.heap.size) (by omega)).kids | exact HV4.out.kids.weak (fun g hg _ => ⟨by have := hg.1; omega, by have := hg.1; omega⟩)) _ rfl 2 rfl HB5.out)
  have HV2x5 := hid (HV2x4.out.past (Below.trans ((Below.refl _ _).alloc (Nat.le_refl _) _) (HB5.out.mono (by simp))))
  have HV4x5 := hid (HV4.out.past (Below.trans ((Below.refl _ _).alloc (Nat.le_refl _) _) (HB5.out.mono (by simp))))
  have HRS5 := hid (HRS4.out.past (Below.trans ((Below.refl _ _).alloc (Nat.le_refl _) _) (HB5.out.mono (by simp))))
  have HKA5 := hid (HKA4.out.below (Below.trans ((Below.refl _ _).alloc (Nat.le_refl _) _) (HB5.out.mono (by simp))))
  have HR5 := hid ((HRd4.out.alloc _).below HB5.out ((HRd4.out.alloc _).lt))
  have HVA0 := hid (HV2x5.out.weak (lo' := W0.heap.size) (by omega))
  have HX : Hid (Sy.typA z N (k + 1) S = (Sy.nd 29 y2.1.pos [y2.1, y4.1], y4.2)) := HX0
  have HAC := hid HVA0.out.cells
  obtain ⟨⟨v0, v1, v2, v3, v4⟩, v5, v6, v7, v8, v9⟩ := blk5 HAC.out
  obtain ⟨V9, hV9, HVB, HVK, HVR, HVD, HVP⟩ := lv_putE (w := w) (lo := W0.heap.size) HAC.out HRS5.out (by omega) (by omega) (by omega) HR5.out (Sy.nd 29 y2.1.pos [y2.1, y4.1]) HKN5.out HKA5.out 29 y2.1.pos 0 ⟨#[]⟩ rfl rfl rfl rfl
  try simp only [hs4] at hV9
  obtain ⟨⟨m0, m1, m2, m3, m4⟩, m5, m6, m7, m8, m9⟩ := blk5 HVB.out
  obtain ⟨pz, hbz, _⟩ := HVD.out.cells
  have d9 := (hbz 9 _ rfl).1
  have g9 := (hbz 9 _ rfl).2
  clear hbz
  rw [HEE.out] at d9
  have hne : w.heap.size ≠ b := by omega
  have hne2 : ¬ b = w.heap.size := by omega
  have hne3 : ¬ b = w2.heap.size := by omega
  have hne4 : w2.heap.size ≠ b := by omega
  obtain ⟨⟨u0, u1, u2, u3, u4⟩, u5, u6, u7, u8, u9⟩ := blk5 HVR.out
  go_wp2_with fail
  refine bodyPost_ret (v := .agg #[.int .i64 29, .int .i64 y2.1.pos, .string ⟨#[]⟩, .int .i64 0, .slice (some ⟨W4.heap.size, 0, none⟩) 2 2]) (by simp [results, Try.results19, go_sem, u0, u1, u2, u3, u4]) rfl ?_
  exact nres_fin (lo := W0.heap.size) (Sy.nd 29 y2.1.pos [y2.1, y4.1]) y4.2 ((HVK.out.free (hi := W0.heap.size) (Nat.le_refl _)).kp (Kp.set (Kp.refl b _) _ _) (by omega) (Nat.le_refl _)) (HVD.out.typ ee _ rfl) (HVP.out.set _ _) HX.out (by omega) (by omega) (by omega) _ _ _ _ rfl rfl rfl rfl _ _ _ _ _
end Go.Proofs.Ytejciampbnfbhaa

namespace Go.Proofs.Ytejciampbnfbhaa
open Go.RowKit
theorem typ_all (N : Nat) (hN : N ≤ 90000) : ∀ k, k ≤ 200 → TypOK N k := by
 intro k
 induction k with
 | zero =>
  intro _ w b s z S e h hm
  cases ho : Sy.okA S with
  | true => exact typ_deep N w b s z S e h ho
  | false => exact typ_bad N 0 w b s z S e _ h ho
 | succ k ih =>
  intro hk w b s z S e h hm
  cases ho : Sy.okA S with
  | true => exact typ_go N k hN hk (ih (by omega)) w b s z S e h hm ho
  | false => exact typ_bad N (k + 1) w b s z S e _ h ho
theorem expr_all (N : Nat) (hN : N ≤ 90000) : ∀ k, k ≤ 200 → ExprOK N k := by
 intro k
 induction k with
 | zero =>
  intro _ w b s z S d h hm
  cases ho : Sy.okA S with
  | true => exact expr_deep N w b s z S d h ho
  | false => exact expr_bad N 0 w b s z S _ d h ho
 | succ k ih =>
  intro hk w b s z S d h hm
  have hE := ih (by omega)
  cases ho : Sy.okA S with
  | true => exact expr_go N k hk hE (square_m N k (by omega) hE) (handle_m N k hN hE) w b s z S d h hm ho
  | false => exact expr_bad N (k + 1) w b s z S _ d h ho
structure Pg (w : World) (b A R lo : Nat) (s : ByteArray) (z : Sy.Env) (S : Sy.RS) (cnt : Nat) (v : Value) (ls : List (Sy.Tr × Value)) (W : World) : Prop where
 row : RowS W lo v ls
 cells : Blk W A [.int .i64 0, .int .i64 0, .string ⟨#[]⟩, .int .i64 cnt, v]
 res : ∃ r0 r1 r2 r3 r4, Blk W R [r0, r1, r2, r3, r4]
 rd : Rd W b s z S 0 0
 kp : Kp b w W
 size : lo ≤ W.heap.size
theorem Pg.step {w W W' : World} {b A R lo cnt : Nat} {s : ByteArray} {z : Sy.Env} {S S' : Sy.RS} {v : Value} {ls : List (Sy.Tr × Value)} (h : Pg w b A R lo s z S cnt v ls W) (hr : Rd W' b s z S' 0 0) (hk : Kp b W W') (h1 : A ≠ b) (h2 : R ≠ b) (h3 : b < lo) : Pg w b A R lo s z S' cnt v ls W' := by
 obtain ⟨h5, h6, ⟨r0, r1, r2, r3, r4, h8⟩, _, h9, h10⟩ := h
 exact ⟨h5.kp hk h3, h6.kp hk h1, ⟨r0, r1, r2, r3, r4, h8.kp hk h2⟩, hr, h9.trans hk, Nat.le_trans h10 hk.size⟩
theorem Pg.past {w W W' : World} {b A R lo cnt : Nat} {s : ByteArray} {z : Sy.Env} {S : Sy.RS} {v : Value} {ls : List (Sy.Tr × Value)} (h : Pg w b A R lo s z S cnt v ls W) (hk : Below W.heap.size W W') : Pg w b A R lo s z S cnt v ls W' := by
 obtain ⟨h5, h6, ⟨r0, r1, r2, r3, r4, h8⟩, h11, h9, h10⟩ := h
 exact ⟨h5.past hk, h6.past hk, ⟨r0, r1, r2, r3, r4, h8.past hk⟩, h11.below hk h11.lt, h9.below hk, Nat.le_trans h10 hk.size⟩
theorem Pg.grown {w W W' : World} {b A R lo cnt g cap : Nat} {s : ByteArray} {z : Sy.Env} {S : Sy.RS} {v : Value} {ls : List (Sy.Tr × Value)} {T2 : Sy.Tr} {kv : Value} (h : Pg w b A R lo s z S cnt v ls W) (hA : A < lo) (hR : R < lo) (hb : b < lo) (hw : w.heap.size ≤ lo)
  (ho : W'.ownsRow lo 35 5 (.slice (some ⟨g, 0, none⟩) (ls.length + 1) cap) (ls.length + 1) (rowCells ls ++ nodeCells T2 kv)) (hg : W.grownBy W' v.ownBlock) (hat : v.ownBlock = some g ∨ g = W.heap.size) (hk : Kids W (Fo lo v) kv T2.kids) :
  RowS W' lo (.slice (some ⟨g, 0, none⟩) (ls.length + 1) cap) (ls ++ [(T2, kv)]) ∧ Blk W' A [.int .i64 0, .int .i64 0, .string ⟨#[]⟩, .int .i64 cnt, v] ∧ (∃ r0 r1 r2 r3 r4, Blk W' R [r0, r1, r2, r3, r4]) ∧ Rd W' b s z S 0 0 ∧ Kp b w W' ∧ lo ≤ W'.heap.size := by
 obtain ⟨h5, h6, ⟨r0, r1, r2, r3, r4, h8⟩, h11, h9, h10⟩ := h
 have hne : ∀ q, q < lo → some q ≠ v.ownBlock := fun q hq e => by
  have := (h5.own.lt q e.symm).1
  omega
 refine ⟨h5.app ho hg hat hk, h6.of_heap (hg.block A h6.lt (hne A hA)), ⟨r0, r1, r2, r3, r4, h8.of_heap (hg.block R h8.lt (hne R hR))⟩, h11.of_heap (hg.block b h11.lt (hne b hb)), ?_, Nat.le_trans h10 hg.size⟩
 exact ⟨hg.os.trans h9.os, hg.tape.trans h9.tape, hg.output.trans h9.output, Nat.le_trans h9.size hg.size, fun i hi hn => (hg.block i (Nat.lt_of_lt_of_le hi h9.size) (hne i (by omega))).trans (h9.block i hi hn)⟩
theorem pg_put {w W : World} {b A R lo cnt : Nat} {s : ByteArray} {z : Sy.Env} {S : Sy.RS} {v v' : Value} {ls : List (Sy.Tr × Value)} (h : RowS W lo v' ls ∧ Blk W A [.int .i64 0, .int .i64 0, .string ⟨#[]⟩, .int .i64 cnt, v] ∧ (∃ r0 r1 r2 r3 r4, Blk W R [r0, r1, r2, r3, r4]) ∧ Rd W b s z S 0 0 ∧ Kp b w W ∧ lo ≤ W.heap.size)
  (h1 : A < lo) (h2 : R ≠ A) (h3 : b ≠ A) (h4 : w.heap.size ≤ A) : Pg w b A R lo s z S cnt v' ls (W.setCell ⟨A, 4, none⟩ v') := by
 obtain ⟨h5, h6, ⟨r0, r1, r2, r3, r4, h7⟩, h8, h9, h10⟩ := h
 exact ⟨h5.heap (by simp [go_sem]) (fun g hg => Below.heap_setCell _ _ _ _ (by show g ≠ A; omega)), h6.set 4 (by simp) v', ⟨r0, r1, r2, r3, r4, h7.other h2 _ _⟩, h8.other h3 _ _, h9.other h4 _ _, by simpa [go_sem] using h10⟩
theorem Pg.count {w W : World} {b A R lo cnt : Nat} {s : ByteArray} {z : Sy.Env} {S : Sy.RS} {v : Value} {ls : List (Sy.Tr × Value)} (h : Pg w b A R lo s z S cnt v ls W) (n : Nat) (x : Int) (hx : x = n) (h1 : A < lo) (h2 : R ≠ A) (h3 : b ≠ A) (h4 : w.heap.size ≤ A) : Pg w b A R lo s z S n v ls (W.setCell ⟨A, 3, none⟩ (.int .i64 x)) := by
 subst hx
 obtain ⟨h5, h6, ⟨r0, r1, r2, r3, r4, h7⟩, h8, h9, h10⟩ := h
 exact ⟨h5.heap (by simp [go_sem]) (fun g hg => Below.heap_setCell _ _ _ _ (by show g ≠ A; omega)), h6.set 3 (by simp) _, ⟨r0, r1, r2, r3, r4, h7.other h2 _ _⟩, h8.other h3 _ _, h9.other h4 _ _, by simpa [go_sem] using h10⟩
end Go.Proofs.Ytejciampbnfbhaa
