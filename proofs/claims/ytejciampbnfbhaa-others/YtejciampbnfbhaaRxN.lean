import Derived.Test.YtejciampbnfbhaaRxL
set_option linter.unusedVariables false
set_option linter.unusedSimpArgs false
set_option maxRecDepth 100000
set_option maxHeartbeats 4000000
namespace Go.Proofs.Ytejciampbnfbhaa
open Go.RowKit
structure Rw (w : World) (b R lo : Nat) (s : ByteArray) (z : Sy.Env) (S : Sy.RS) (e d : Nat) (v : Value) (ls : List (Sy.Tr × Value)) (W : World) : Prop where
 row : RowS W lo v ls
 res : ∃ r0 r1 r2 r3 r4, Blk W R [r0, r1, r2, r3, r4]
 rd : Rd W b s z S e d
 kp : Kp b w W
 size : lo ≤ W.heap.size
theorem Rw.step {w W W' : World} {b R lo e d : Nat} {s : ByteArray} {z : Sy.Env} {S S' : Sy.RS} {v : Value} {ls : List (Sy.Tr × Value)} (h : Rw w b R lo s z S e d v ls W) (hr : Rd W' b s z S' e d) (hk : Kp b W W') (h2 : R ≠ b) (h3 : b < lo) : Rw w b R lo s z S' e d v ls W' := by
 obtain ⟨h4, ⟨r0, r1, r2, r3, r4, h7⟩, _, h9, h10⟩ := h
 exact ⟨h4.kp hk h3, ⟨r0, r1, r2, r3, r4, h7.kp hk h2⟩, hr, h9.trans hk, Nat.le_trans h10 hk.size⟩
theorem Rw.past {w W W' : World} {b R lo e d : Nat} {s : ByteArray} {z : Sy.Env} {S : Sy.RS} {v : Value} {ls : List (Sy.Tr × Value)} (h : Rw w b R lo s z S e d v ls W) (hk : Below W.heap.size W W') : Rw w b R lo s z S e d v ls W' := by
 obtain ⟨h4, ⟨r0, r1, r2, r3, r4, h7⟩, h8, h9, h10⟩ := h
 exact ⟨h4.past hk, ⟨r0, r1, r2, r3, r4, h7.past hk⟩, h8.below hk h8.lt, h9.below hk, Nat.le_trans h10 hk.size⟩
theorem Rw.app {w W W' : World} {b R lo e d g cap : Nat} {s : ByteArray} {z : Sy.Env} {S : Sy.RS} {v : Value} {ls : List (Sy.Tr × Value)} {T : Sy.Tr} {kv : Value} (h : Rw w b R lo s z S e d v ls W) (hR : R < lo) (hb : b < lo) (hw : w.heap.size ≤ lo)
  (ho : W'.ownsRow lo 35 5 (.slice (some ⟨g, 0, none⟩) (ls.length + 1) cap) (ls.length + 1) (rowCells ls ++ nodeCells T kv)) (hg : W.grownBy W' v.ownBlock) (hat : v.ownBlock = some g ∨ g = W.heap.size) (hk : Kids W (Fo lo v) kv T.kids) :
  Rw w b R lo s z S e d (.slice (some ⟨g, 0, none⟩) (ls.length + 1) cap) (ls ++ [(T, kv)]) W' := by
 obtain ⟨h4, ⟨r0, r1, r2, r3, r4, h7⟩, h8, h9, h10⟩ := h
 have hne : ∀ q, q < lo → some q ≠ v.ownBlock := fun q hq e => by
  have := (h4.own.lt q e.symm).1
  omega
 refine ⟨h4.app ho hg hat hk, ⟨r0, r1, r2, r3, r4, h7.of_heap (hg.block R h7.lt (hne R hR))⟩, h8.of_heap (hg.block b h8.lt (hne b hb)), ?_, Nat.le_trans h10 hg.size⟩
 exact ⟨hg.os.trans h9.os, hg.tape.trans h9.tape, hg.output.trans h9.output, Nat.le_trans h9.size hg.size, fun i hi hn => (hg.block i (Nat.lt_of_lt_of_le hi h9.size) (hne i (by omega))).trans (h9.block i hi hn)⟩
theorem rowS_lit {W : World} {lo : Nat} (ls : List (Sy.Tr × Value)) (_ : ls ≠ []) (H : Nat) (hH : W.heap.size = H) (cs : Array Value) (hcs : cs = (rowCells ls).toArray) (n : Nat) (hn : n = ls.length) (hm : n ≤ 1000) (hlo : lo ≤ H) (hk : ∀ p ∈ ls, Kids W (fun g => lo ≤ g) p.2 p.1.kids) :
  RowS (W.alloc (.cells cs 35)) lo (.slice (some ⟨H, 0, none⟩) n n) ls := by
 subst hH hcs hn
 refine ⟨⟨by rw [rowCells_len], .inr ⟨W.heap.size, ls.length, (rowCells ls).toArray, rfl, hlo, heap_alloc_new W _, Nat.le_refl _, by unfold maxLen; omega, by simp [rowCells_len], by simp [← rowCells_len]⟩⟩, ?_⟩
 intro p hp
 refine ((hk p hp).weak (fun g hg hlt => ⟨hg, ?_⟩)).pastF ((Below.refl _ _).alloc (Nat.le_refl _) _)
 intro e
 have e2 : g = W.heap.size := by simpa [Value.ownBlock] using e
 omega
theorem RowS.form {W : World} {lo : Nat} {v : Value} {ls : List (Sy.Tr × Value)} (h : RowS W lo v ls) (h0 : ls ≠ []) : ∃ g cap, v = .slice (some ⟨g, 0, none⟩) ls.length cap := by
 rcases h.own.2 with ⟨_, h1⟩ | ⟨g, cap, cur, h1, _⟩
 ·exact absurd (List.length_eq_zero_iff.1 h1) h0
 ·exact ⟨g, cap, h1⟩
theorem RowS.kidsOf {W : World} {lo g n cap : Nat} {ls : List (Sy.Tr × Value)} (h : RowS W lo (.slice (some ⟨g, 0, none⟩) n cap) ls) (h0 : ls ≠ []) (hn : n = ls.length) : Kids W (fun q => lo ≤ q) (.slice (some ⟨g, 0, none⟩) n cap) (ls.map (·.1)) := by
 subst hn
 have hcap : ls.length ≤ cap := by
  rcases h.own.2 with ⟨h1, _⟩ | ⟨g', cap', cur, h1, _, _, h4, _⟩
  ·cases h1
  ·simp only [Value.slice.injEq] at h1
   omega
 refine kids_lit ls (h.own.lt g rfl).1 h0 hcap ?_ (fun p hp => (h.kids p hp).weak (fun q hq _ => hq.1))
 intro j v hj
 have h3 := h.own.cells (g := g) rfl _ _ hj
 have e : (⟨g, 0, none⟩ : Addr).add j = ⟨g, j, none⟩ := by unfold Addr.add; split <;> simp_all
 rw [e] at h3
 exact h3
theorem handle_m (N k : Nat) (hN : N ≤ 90000) (hE : ExprOK N k) : HandleOK N k := by
 intro w b s z p S d h hm hor
 have H := hid h
 have HM := hid hm
 have hlt := h.lt
 clear h hm
 obtain ⟨i0, hi, hiz0, hiz1, hiz2⟩ := info_parts Try.info36
 cases h1 : Sy.isA Sy.w_handle S with
 | true =>
  go_enter Try.func75, Try.ntmps75
  go_wp2_with fail
  obtain ⟨W0, hW0, HI⟩ := in1 H.out 35
  rw [hW0]
  have HW0 := hid hW0
  clear hW0
  have hz0 := HI.out.size
  have HMA : Hid (Sy.mu (Sy.nextA z S) < N) := Nat.lt_trans (Sy.mu_is z h1) HM.out
  refine (has_yes _ b s z S (200 - k) d Sy.w_handle HI.out.rd h1).mono ?_
  rintro en w1 ⟨rfl, hr1, hk1⟩
  have HR1 := hid hr1
  have HK1 := hid hk1
  clear hr1 hk1
  have HRS1 := hid (HI.out.one.kp HK1.out (by omega))
  have HKA1 := hid (HI.out.kp.trans HK1.out)
  have ht1 := HK1.out.size
  go_wp2_with fail
  refine (hE w1 b s z (Sy.nextA z S) d HR1.out HMA.out).mono ?_
  rintro en w2 ⟨a2, l2, c2, rfl, HKd2, HR2, HK2⟩
  generalize hy2 : Sy.exprA z N k (Sy.nextA z S) = y2 at *
  have HY2 := hid hy2
  clear hy2
  obtain ⟨W2, hW2, HV2, HRd2, HKp2, hs2, ht2⟩ := var_new HKd2.out HR2.out HK2.out 35
  have HRS2 := hid (HRS1.out.kp HKp2.out (by omega))
  have HKA2 := hid (HKA1.out.trans HKp2.out)
  have HMU1 := hid (Sy.mu_expr z N k (Sy.nextA z S))
  rw [HY2.out] at HMU1
  go_wp2_with fail
  try rw [hW2]
  clear hW2
  refine (must_m _ b s z y2.2 (200 - k) d Sy.w_with HRd2.out).mono ?_
  rintro en w3 ⟨rfl, hr3, hk3⟩
  have HR3 := hid hr3
  have HK3 := hid hk3
  clear hr3 hk3
  have HV2x3 := hid (HV2.out.kp HK3.out (by omega) (by omega))
  have HRS3 := hid (HRS2.out.kp HK3.out (by omega))
  have HKA3 := hid (HKA2.out.trans HK3.out)
  have ht3 := HK3.out.size
  go_wp2_with fail
  refine (must_m _ b s z (Sy.mustA z Sy.w_with y2.2) (200 - k) d Sy.s_lb HR3.out).mono ?_
  rintro en w4 ⟨rfl, hr4, hk4⟩
  have HR4 := hid hr4
  have HK4 := hid hk4
  clear hr4 hk4
  have HV2x4 := hid (HV2x3.out.kp HK4.out (by omega) (by omega))
  have HRS4 := hid (HRS3.out.kp HK4.out (by omega))
  have HKA4 := hid (HKA3.out.trans HK4.out)
  have ht4 := HK4.out.size
  have HMUU := hid (Nat.le_trans (Sy.mu_must z Sy.s_lb (Sy.mustA z Sy.w_with y2.2)) (Sy.mu_must z Sy.w_with y2.2))
  generalize hu : (Sy.mustA z Sy.s_lb (Sy.mustA z Sy.w_with y2.2)) = u at *
  have HU := hid hu
  clear hu
  obtain ⟨p5, hb5, _⟩ := HR4.out.cells
  have c5_2 := (hb5 2 _ rfl).1
  clear hb5
  go_wp2_with fail
  refine (must_m _ b s z u (200 - k) d Sy.w_return HR4.out).mono ?_
  rintro en w6 ⟨rfl, hr6, hk6⟩
  have HR6 := hid hr6
  have HK6 := hid hk6
  clear hr6 hk6
  have HV2x6 := hid (HV2x4.out.kp HK6.out (by omega) (by omega))
  have HRS6 := hid (HRS4.out.kp HK6.out (by omega))
  have HKA6 := hid (HKA4.out.trans HK6.out)
  have ht6 := HK6.out.size
  go_wp2_with fail
  refine (name_m _ b s z (Sy.mustA z Sy.w_return u) (200 - k) d HR6.out).mono ?_
  rintro en w7 ⟨rfl, hr7, hk7⟩
  have HR7 := hid hr7
  have HK7 := hid hk7
  clear hr7 hk7
  have HV2x7 := hid (HV2x6.out.kp HK7.out (by omega) (by omega))
  have HRS7 := hid (HRS6.out.kp HK7.out (by omega))
  have HKA7 := hid (HKA6.out.trans HK7.out)
  have ht7 := HK7.out.size
  have HMQ := hid (Nat.le_trans (Sy.mu_name z (Sy.mustA z Sy.w_return u)) (Sy.mu_must z Sy.w_return u))
  generalize hq : Sy.nameA z (Sy.mustA z Sy.w_return u) = q at *
  have HQ := hid hq
  clear hq
  go_wp2_with fail
  refine (must_m _ b s z q.2 (200 - k) d Sy.s_to HR7.out).mono ?_
  rintro en w8 ⟨rfl, hr8, hk8⟩
  have HR8 := hid hr8
  have HK8 := hid hk8
  clear hr8 hk8
  have HV2x8 := hid (HV2x7.out.kp HK8.out (by omega) (by omega))
  have HRS8 := hid (HRS7.out.kp HK8.out (by omega))
  have HKA8 := hid (HKA7.out.trans HK8.out)
  have ht8 := HK8.out.size
  go_wp2_with fail
  have HM2 : Hid (Sy.mu (Sy.mustA z Sy.s_to q.2) < N) := by have h1 := Sy.mu_must z Sy.s_to q.2; have h2 := HMQ.out; have h3 := HMUU.out; have h4 := HMU1.out; have h5 := HMA.out; simp only [Hid]; omega
  refine (hE w8 b s z (Sy.mustA z Sy.s_to q.2) d HR8.out HM2.out).mono ?_
  rintro en w9 ⟨a9, l9, c9, rfl, HKd9, HR9, HK9⟩
  generalize hy9 : Sy.exprA z N k (Sy.mustA z Sy.s_to q.2) = y9 at *
  have HY9 := hid hy9
  clear hy9
  obtain ⟨W9, hW9, HV9, HRd9, HKp9, hs9, ht9⟩ := var_new HKd9.out HR9.out HK9.out 35
  have HV2x9 := hid (HV2x8.out.kp HKp9.out (by omega) (by omega))
  have HRS9 := hid (HRS8.out.kp HKp9.out (by omega))
  have HKA9 := hid (HKA8.out.trans HKp9.out)
  have HMU2 := hid (Sy.mu_expr z N k (Sy.mustA z Sy.s_to q.2))
  rw [HY9.out] at HMU2
  obtain ⟨⟨q2_0, q2_1, q2_2, q2_3, q2_4⟩, q2_5, q2_6, q2_7, q2_8, q2_9⟩ := blk5 HV2x9.out.cells
  obtain ⟨⟨q9_0, q9_1, q9_2, q9_3, q9_4⟩, q9_5, q9_6, q9_7, q9_8, q9_9⟩ := blk5 HV9.out.cells
  go_wp2_with fail
  try rw [hW9]
  clear hW9
  have hlt2 : w2.heap.size < W9.heap.size := HV2x9.out.cells.lt
  have hlt9 : w9.heap.size < W9.heap.size := HV9.out.cells.lt
  go_region_held3 (fun w' => w'.cell? ⟨w2.heap.size, 0, none⟩ = some (.int .i64 y2.1.kind) ∧ w'.cell? ⟨w2.heap.size, 1, none⟩ = some (.int .i64 y2.1.pos) ∧ w'.cell? ⟨w2.heap.size, 2, none⟩ = some (.string ⟨y2.1.name.toArray⟩) ∧ w'.cell? ⟨w2.heap.size, 3, none⟩ = some (.int .i64 y2.1.num) ∧ w'.cell? ⟨w2.heap.size, 4, none⟩ = some (.slice a2 l2 c2) ∧ w'.cell? ⟨w9.heap.size, 0, none⟩ = some (.int .i64 y9.1.kind) ∧ w'.cell? ⟨w9.heap.size, 1, none⟩ = some (.int .i64 y9.1.pos) ∧ w'.cell? ⟨w9.heap.size, 2, none⟩ = some (.string ⟨y9.1.name.toArray⟩) ∧ w'.cell? ⟨w9.heap.size, 3, none⟩ = some (.int .i64 y9.1.num) ∧ w'.cell? ⟨w9.heap.size, 4, none⟩ = some (.slice a9 l9 c9)) (go_keep)
   ((go_at_call 20; refine (named_m _ _ _ _ _ _ _).mono ?_; rintro en wA ⟨rfl, HBA⟩; have jc2_0 := (bcell HBA.out).1 w2.heap.size 0 (by simp; omega); have jc2_1 := (bcell HBA.out).1 w2.heap.size 1 (by simp; omega); have jc2_2 := (bcell HBA.out).1 w2.heap.size 2 (by simp; omega); have jc2_3 := (bcell HBA.out).1 w2.heap.size 3 (by simp; omega); have jc2_4 := (bcell HBA.out).1 w2.heap.size 4 (by simp; omega); have jc9_0 := (bcell HBA.out).1 w9.heap.size 0 (by simp; omega); have jc9_1 := (bcell HBA.out).1 w9.heap.size 1 (by simp; omega); have jc9_2 := (bcell HBA.out).1 w9.heap.size 2 (by simp; omega); have jc9_3 := (bcell HBA.out).1 w9.heap.size 3 (by simp; omega); have jc9_4 := (bcell HBA.out).1 w9.heap.size 4 (by simp; omega); have hzA := HBA.out.size; simp at hzA; have lz2 : w2.heap.size < wA.heap.size := (by omega); have lz9 : w9.heap.size < wA.heap.size := (by omega)))
  have HBL : Hid (Below W9.heap.size W9 wA) := (((Below.refl _ _).drew).alloc (Nat.le_refl _) _).trans (HBA.out.mono (by simp))
  have HKN := hid (kids_newH (w1 := W9.drew) (F := fun q => W0.heap.size ≤ q) (w9.heap.size + 1) hs9 [(y9.1, .slice a9 l9 c9)] (by simp) (by show W0.heap.size ≤ _; omega) (by intro p hp; simp only [List.mem_cons, or_false, List.not_mem_nil] at hp; rcases hp with rfl; exact (HV9.out.kids.free (by omega)).pastF (Below.refl _ _).drew) _ rfl 1 rfl HBA.out)
  have HRW := hid (rowS_lit (W := wA) (lo := W0.heap.size) [(y2.1, .slice a2 l2 c2), (Sy.nm 21 u.t.pos q.1.1 [y9.1], .slice (some ⟨w9.heap.size + 1, 0, none⟩) 1 1)] (by simp) wA.heap.size rfl _ rfl 2 rfl (by decide) (by omega) (by intro p hp; simp only [List.mem_cons, or_false, List.not_mem_nil] at hp; rcases hp with rfl | rfl; exact (HV2x9.out.kids.free (by omega)).pastF HBL.out; exact HKN.out))
  have HL : Hid (Rw w b w.heap.size W0.heap.size s z y9.2 (200 - k) d (.slice (some ⟨wA.heap.size, 0, none⟩) 2 2) _ _) := ⟨HRW.out, ⟨_, _, _, _, _, (HRS9.out.past HBL.out).alloc _⟩, (HRd9.out.below HBL.out HRd9.out.lt).alloc _, (HKA9.out.below HBL.out).alloc _, by have := HBL.out.size; simp; omega⟩
  go_wp2_with fail
  have HTOT : Hid (Sy.handleA z N (Sy.exprA z N k) p S = (.mk 20 p [] 0 (Sy.clausesA z (Sy.exprA z N k) N [y2.1, Sy.nm 21 u.t.pos q.1.1 [y9.1]] y9.2).1, Sy.mustA z Sy.s_rb (Sy.clausesA z (Sy.exprA z N k) N [y2.1, Sy.nm 21 u.t.pos q.1.1 [y9.1]] y9.2).2)) := by
   simp only [Hid, Sy.handleA, h1, HY2.out, HU.out, HQ.out, HY9.out]; rfl
  have HMY : Hid (Sy.mu y9.2 < N) := Nat.lt_of_le_of_lt HMU2.out HM2.out
  generalize hcl : Sy.clausesA z (Sy.exprA z N k) N [y2.1, Sy.nm 21 u.t.pos q.1.1 [y9.1]] y9.2 = cl at *
  have HCL := hid hcl
  clear hcl
  go_loopg [11] N (fun n v wr => ∃ (ls : List (Sy.Tr × Value)) (S1 : Sy.RS), Hid (Rw w b w.heap.size W0.heap.size s z S1 (200 - k) d v ls wr) ∧ Hid (Sy.clausesA z (Sy.exprA z N k) n (ls.map (·.1)) S1 = cl) ∧ Hid (Sy.mu S1 < N) ∧ Hid (Sy.mu S1 < n) ∧ Hid (ls.length + n = N + 2) ∧ ls ≠ [])
  case atStart => exact ⟨_, _, HL, HCL, HMY, HMY, by simp only [Hid, List.length_cons, List.length_nil]; omega, by simp⟩
  case round =>
   obtain ⟨ls, S1, HLr, HEQ, HMS, HMN, HLN, hne0⟩ := hrel; obtain ⟨m, hm⟩ : ∃ m, gk = m + 1 := ⟨gk - 1, by have := HMN.out; omega⟩; subst hm; have hzr := HLr.out.size; obtain ⟨gr, capr, hvr⟩ := HLr.out.row.form hne0; subst hvr; have HLB := hid (len_bytes (n := ls.length) (N := N + 2) (by have := HLN.out; omega) (by omega)); obtain ⟨r0, r1, r2, r3, r4, HRSA0⟩ := HLr.out.res; have HRSA := hid HRSA0; clear HRSA0
   cases hbar : Sy.isA Sy.s_bar S1 with
   | false =>
    have HX : Hid (Sy.handleA z N (Sy.exprA z N k) p S = (.mk 20 p [] 0 (ls.map (·.1)), Sy.mustA z Sy.s_rb S1)) := by
     have e : cl = (ls.map (·.1), S1) := by rw [← HEQ.out, Sy.clausesA]; simp [hbar]
     rw [Hid, HTOT.out, e]
    go_wp2_with fail
    refine (has_no _ b s z S1 (200 - k) d Sy.s_bar HLr.out.rd hbar).mono ?_; rintro en w' ⟨rfl, rfl⟩
    go_wp2_with fail
    refine (must_m _ b s z S1 (200 - k) d Sy.s_rb HLr.out.rd).mono ?_; rintro en w21 ⟨rfl, hr21, hk21⟩; have HR21 := hid hr21; have HK21 := hid hk21; clear hr21 hk21; have HRS21 := hid (HRSA.out.kp HK21.out (by omega)); have HKA21 := hid (HLr.out.kp.trans HK21.out); have ht21 := HK21.out.size; have HLm := hid (HLr.out.row.kp HK21.out (by omega))
    go_wp2_with fail
    refine (node_m _ _ _ _ _ _).mono ?_; rintro en w22 ⟨rfl, HB22⟩; have HRS22 := hid (HRS21.out.past HB22.out); have HKA22 := hid (HKA21.out.below HB22.out); have HR22 := hid (HR21.out.below HB22.out HR21.out.lt); have ht22 := HB22.out.size; have HKN2 := hid ((HLm.out.kidsOf hne0 rfl).pastF HB22.out); obtain ⟨⟨u0, u1, u2, u3, u4⟩, u5, u6, u7, u8, u9⟩ := blk5 HRS22.out; have hlw : w.heap.size < w22.heap.size := HRS22.out.lt
    go_wp2_with fail
    refine bodyPost_ret (v := .agg #[.int .i64 20, .int .i64 p, .string ⟨#[]⟩, .int .i64 0, .slice (some ⟨gr, 0, none⟩) ls.length capr]) (by simp [results, Try.results75, go_sem, u0, u1, u2, u3, u4, hlw]) rfl ?_; refine NRes.alloc ?_ _; exact nres_fin (lo := W0.heap.size) (.mk 20 p [] 0 (ls.map (·.1))) (Sy.mustA z Sy.s_rb S1) HKN2.out HR22.out HKA22.out HX.out (by omega) (by omega) (by omega) _ _ _ _ rfl rfl rfl rfl _ _ _ _ _
   | true =>
    have HMA2 := hid (Sy.mu_is z hbar)
    go_wp2_with fail
    refine (has_yes _ b s z S1 (200 - k) d Sy.s_bar HLr.out.rd hbar).mono ?_; rintro en w21 ⟨rfl, hr21, hk21⟩; have HR21 := hid hr21; have HK21 := hid hk21; clear hr21 hk21; have HRS21 := hid (HRSA.out.kp HK21.out (by omega)); have HKA21 := hid ((Kp.refl b wr).trans HK21.out); have ht21 := HK21.out.size
    go_wp2_with fail
    refine (name_m _ b s z (Sy.nextA z S1) (200 - k) d HR21.out).mono ?_; rintro en w22 ⟨rfl, hr22, hk22⟩; have HR22 := hid hr22; have HK22 := hid hk22; clear hr22 hk22; have HRS22 := hid (HRS21.out.kp HK22.out (by omega)); have HKA22 := hid (HKA21.out.trans HK22.out); have ht22 := HK22.out.size; have HMo := hid (Sy.mu_name z (Sy.nextA z S1)); generalize ho : Sy.nameA z (Sy.nextA z S1) = o at *; have HHo := hid ho; clear ho
    go_wp2_with fail
    refine (name_m _ b s z o.2 (200 - k) d HR22.out).mono ?_; rintro en w23 ⟨rfl, hr23, hk23⟩; have HR23 := hid hr23; have HK23 := hid hk23; clear hr23 hk23; have HRS23 := hid (HRS22.out.kp HK23.out (by omega)); have HKA23 := hid (HKA22.out.trans HK23.out); have ht23 := HK23.out.size; have HMyy := hid (Sy.mu_name z o.2); generalize hyy : Sy.nameA z o.2 = yy at *; have HHyy := hid hyy; clear hyy
    go_wp2_with fail
    refine (name_m _ b s z yy.2 (200 - k) d HR23.out).mono ?_; rintro en w24 ⟨rfl, hr24, hk24⟩; have HR24 := hid hr24; have HK24 := hid hk24; clear hr24 hk24; have HRS24 := hid (HRS23.out.kp HK24.out (by omega)); have HKA24 := hid (HKA23.out.trans HK24.out); have ht24 := HK24.out.size; have HMkk := hid (Sy.mu_name z yy.2); generalize hkk : Sy.nameA z yy.2 = kk at *; have HHkk := hid hkk; clear hkk
    go_wp2_with fail
    refine (must_m _ b s z kk.2 (200 - k) d Sy.s_to HR24.out).mono ?_; rintro en w25 ⟨rfl, hr25, hk25⟩; have HR25 := hid hr25; have HK25 := hid hk25; clear hr25 hk25; have HRS25 := hid (HRS24.out.kp HK25.out (by omega)); have HKA25 := hid (HKA24.out.trans HK25.out); have ht25 := HK25.out.size
    go_wp2_with fail
    have HMC : Hid (Sy.mu (Sy.mustA z Sy.s_to kk.2) < m) := by have h1 := Sy.mu_must z Sy.s_to kk.2; have h2 := HMkk.out; have h3 := HMyy.out; have h4 := HMo.out; have h5 := HMA2.out; have h6 := HMN.out; simp only [Hid]; omega
    have HMC2 : Hid (Sy.mu (Sy.mustA z Sy.s_to kk.2) < N) := by have h1 := Sy.mu_must z Sy.s_to kk.2; have h2 := HMkk.out; have h3 := HMyy.out; have h4 := HMo.out; have h5 := HMA2.out; have h6 := HMS.out; simp only [Hid]; omega
    refine (hE w25 b s z (Sy.mustA z Sy.s_to kk.2) d HR25.out HMC2.out).mono ?_; rintro en w26 ⟨a26, l26, c26, rfl, HKd26, HR26, HK26⟩; generalize hy26 : Sy.exprA z N k (Sy.mustA z Sy.s_to kk.2) = y26 at *; have HY26 := hid hy26; clear hy26; obtain ⟨W26, hW26, HV26, HRd26, HKp26, hs26, ht26⟩ := var_new HKd26.out HR26.out HK26.out 35; have HRS26 := hid (HRS25.out.kp HKp26.out (by omega)); have HKA26 := hid (HKA25.out.trans HKp26.out); have HMU3 := hid (Sy.mu_expr z N k (Sy.mustA z Sy.s_to kk.2)); rw [HY26.out] at HMU3; obtain ⟨⟨q26_0, q26_1, q26_2, q26_3, q26_4⟩, q26_5, q26_6, q26_7, q26_8, q26_9⟩ := blk5 HV26.out.cells
    go_wp2_with fail
    try rw [hW26]
    clear hW26; have hltc : w26.heap.size < W26.heap.size := HV26.out.cells.lt; have HROW := hid (HLr.out.row.kp HKA26.out (by omega)); have hgr : gr < wr.heap.size := (HLr.out.row.own.lt gr rfl).2; have hgr2 : W0.heap.size ≤ gr := (HLr.out.row.own.lt gr rfl).1; have hnec : ¬ w26.heap.size = gr := by omega
    have HKX : Hid (Below W26.heap.size W26 W26.drew) := (Below.refl _ _).drew
    go_region_held3 (fun w' => w'.cell? ⟨w26.heap.size, 0, none⟩ = some (.int .i64 y26.1.kind) ∧ w'.cell? ⟨w26.heap.size, 1, none⟩ = some (.int .i64 y26.1.pos) ∧ w'.cell? ⟨w26.heap.size, 2, none⟩ = some (.string ⟨y26.1.name.toArray⟩) ∧ w'.cell? ⟨w26.heap.size, 3, none⟩ = some (.int .i64 y26.1.num) ∧ w'.cell? ⟨w26.heap.size, 4, none⟩ = some (.slice a26 l26 c26)) (go_keep)
     (first
      | (refine step_append_lies _ (by rfl) _ _ 33 (by rfl) W0.heap.size 35 i0 (.agg #[.int .i64 0, .int .i64 0, .string ⟨#[]⟩, .int .i64 0, .slice none 0 0]) 5 64 Try.underlying33 hi hiz0 hiz1 hiz2 rfl (by decide) (.slice (some ⟨gr, 0, none⟩) ls.length capr) ls.length (rowCells ls) (by rfl) HRX.out.own ⟨wN.heap.size, 0, none⟩ 1 1 (nodeCells (Sy.nm 22 o.1.2 o.1.1 [Sy.nm 23 yy.1.2 yy.1.1 [], Sy.nm 23 kk.1.2 kk.1.1 [], y26.1]) (.slice (some ⟨wA.heap.size, 0, none⟩) 3 3)) (by rfl) (by rfl) HNW.out (node_one _ _ _ _) (by decide) HLB.out.1 HLB.out.2 hbs _ rfl ?_; intro ga capa w9z hown hgrow hat hlt9; have jg0 := World.cell?_of_block (a := ⟨w26.heap.size, 0, none⟩) (hgrow.block w26.heap.size (by simp; omega) (by intro e; exact hnec (by simpa [Value.ownBlock] using e))); have jg1 := World.cell?_of_block (a := ⟨w26.heap.size, 1, none⟩) (hgrow.block w26.heap.size (by simp; omega) (by intro e; exact hnec (by simpa [Value.ownBlock] using e))); have jg2 := World.cell?_of_block (a := ⟨w26.heap.size, 2, none⟩) (hgrow.block w26.heap.size (by simp; omega) (by intro e; exact hnec (by simpa [Value.ownBlock] using e))); have jg3 := World.cell?_of_block (a := ⟨w26.heap.size, 3, none⟩) (hgrow.block w26.heap.size (by simp; omega) (by intro e; exact hnec (by simpa [Value.ownBlock] using e))); have jg4 := World.cell?_of_block (a := ⟨w26.heap.size, 4, none⟩) (hgrow.block w26.heap.size (by simp; omega) (by intro e; exact hnec (by simpa [Value.ownBlock] using e))))
      | (go_at_call_of 20 (Value.int .i64 23); refine (named_m _ _ _ _ _ _ _).mono ?_; rintro en wA ⟨rfl, HBA⟩; have jc0 := (bcell HBA.out).1 w26.heap.size 0 (by first | exact lzc | exact hltc); have jc1 := (bcell HBA.out).1 w26.heap.size 1 (by first | exact lzc | exact hltc); have jc2 := (bcell HBA.out).1 w26.heap.size 2 (by first | exact lzc | exact hltc); have jc3 := (bcell HBA.out).1 w26.heap.size 3 (by first | exact lzc | exact hltc); have jc4 := (bcell HBA.out).1 w26.heap.size 4 (by first | exact lzc | exact hltc); have hzA := HBA.out.size; (try simp at hzA); have lzc : w26.heap.size < wA.heap.size := (by omega); have HKX : Hid (Below W26.heap.size W26 wA) := hid (HKX.out.trans (HBA.out.mono HKX.out.size)))
      | (go_at_call_of 20 (Value.int .i64 22); refine (named_m _ _ _ _ _ _ _).mono ?_; rintro en wN ⟨rfl, HBN⟩; have jn0 := (bcell HBN.out).1 w26.heap.size 0 (by have := lzc; simp; omega); have jn1 := (bcell HBN.out).1 w26.heap.size 1 (by have := lzc; simp; omega); have jn2 := (bcell HBN.out).1 w26.heap.size 2 (by have := lzc; simp; omega); have jn3 := (bcell HBN.out).1 w26.heap.size 3 (by have := lzc; simp; omega); have jn4 := (bcell HBN.out).1 w26.heap.size 4 (by have := lzc; simp; omega); have hzN := HBN.out.size; (try simp at hzN); have hzK := HKX.out.size; have lzn : w26.heap.size < wN.heap.size := (by omega); have HKN := hid (kids_new (F := Fo W0.heap.size (.slice (some ⟨gr, 0, none⟩) ls.length capr)) [(Sy.nm 23 yy.1.2 yy.1.1 [], .slice none 0 0), (Sy.nm 23 kk.1.2 kk.1.1 [], .slice none 0 0), (y26.1, .slice a26 l26 c26)] (by simp) (show Fo _ _ wA.heap.size from ⟨by omega, by intro e; have e2 : wA.heap.size = gr := (by simpa [Value.ownBlock] using e); omega⟩) (by intro p hp; simp only [List.mem_cons, or_false, List.not_mem_nil] at hp; rcases hp with rfl | rfl | rfl; exact .nil; exact .nil; exact (HV26.out.kids.weak (fun q hq _ => ⟨by have := hq.1; omega, by intro e; have e2 : q = gr := (by simpa [Value.ownBlock] using e); have := hq.1; omega⟩)).carry (fun q _ hlt => HKX.out.block q hlt) (fun _ hq _ => hq)) _ rfl 3 rfl HBN.out); have HKY : Hid (Below W26.heap.size W26 wN) := hid ((HKX.out.alloc HKX.out.size _).trans (HBN.out.mono (Nat.le_trans HKX.out.size (by simp)))); have HRX := hid (RowS.alloc (HROW.out.past HKY.out) (.cells #[.int .i64 22, .int .i64 o.1.2, .string ⟨o.1.1.toArray⟩, .int .i64 0, .slice (some ⟨wA.heap.size, 0, none⟩) 3 3] 35)); have HNW := hid (node_news (w := wN) (T := (Sy.nm 22 o.1.2 o.1.1 [Sy.nm 23 yy.1.2 yy.1.1 [], Sy.nm 23 kk.1.2 kk.1.1 [], y26.1])) (a := some ⟨wA.heap.size, 0, none⟩) (l := 3) (c := 3) (ty := 35) (H := wN.heap.size) rfl); have hbs : W0.heap.size ≤ (wN.alloc (.cells #[.int .i64 22, .int .i64 o.1.2, .string ⟨o.1.1.toArray⟩, .int .i64 0, .slice (some ⟨wA.heap.size, 0, none⟩) 3 3] 35)).heap.size := (by simp; omega)))
    have HX0 : Hid (Rw w b w.heap.size W0.heap.size s z y26.2 (200 - k) d (.slice (some ⟨gr, 0, none⟩) ls.length capr) ls (wN.alloc (.cells #[.int .i64 22, .int .i64 o.1.2, .string ⟨o.1.1.toArray⟩, .int .i64 0, .slice (some ⟨wA.heap.size, 0, none⟩) 3 3] 35))) :=
     ⟨HRX.out, ⟨_, _, _, _, _, (HRS26.out.past HKY.out).alloc _⟩, (HRd26.out.below HKY.out HRd26.out.lt).alloc _, ((HLr.out.kp.trans HKA26.out).below HKY.out).alloc _, hbs⟩
    have HL9 := hid (HX0.out.app (T := (Sy.nm 22 o.1.2 o.1.1 [Sy.nm 23 yy.1.2 yy.1.1 [], Sy.nm 23 kk.1.2 kk.1.1 [], y26.1])) (kv := (.slice (some ⟨wA.heap.size, 0, none⟩) 3 3)) (by omega) (by omega) (by omega) hown hgrow hat (HKN.out.pastF ((Below.refl _ _).alloc (Nat.le_refl _) _)))
    have HEQ2 : Hid (Sy.clausesA z (Sy.exprA z N k) m ((ls ++ [((Sy.nm 22 o.1.2 o.1.1 [Sy.nm 23 yy.1.2 yy.1.1 [], Sy.nm 23 kk.1.2 kk.1.1 [], y26.1]), (Value.slice (some ⟨wA.heap.size, 0, none⟩) 3 3 : Value))]).map (·.1)) y26.2 = cl) := by
     have h := HEQ.out; rw [Sy.clausesA] at h; simp only [hbar, if_true, HHo.out, HHyy.out, HHkk.out, HY26.out] at h; simp only [Hid, List.map_append, List.map_cons, List.map_nil]; exact h
    go_wp2_with fail
    go_roundg m
    case measure => omega
    case rel => exact ⟨_, _, HL9, HEQ2, Nat.lt_of_le_of_lt HMU3.out HMC2.out, Nat.lt_of_le_of_lt HMU3.out HMC.out, by have := HLN.out; simp only [Hid, List.length_append, List.length_cons, List.length_nil]; omega, by simp⟩
 | false =>
  have h2 : Sy.isA Sy.w_shallow S = true := by rcases hor with h | h; rw [h1] at h; cases h; exact h
  go_enter Try.func75, Try.ntmps75
  go_wp2_with fail
  obtain ⟨W0, hW0, HI⟩ := in1 H.out 35
  rw [hW0]
  have HW0 := hid hW0
  clear hW0
  have hz0 := HI.out.size
  have HMA : Hid (Sy.mu (Sy.nextA z S) < N) := Nat.lt_trans (Sy.mu_is z h2) HM.out
  refine (has_no _ b s z S (200 - k) d Sy.w_handle HI.out.rd h1).mono ?_
  rintro en w' ⟨rfl, rfl⟩
  go_wp2_with fail
  refine (next_m _ b s z S (200 - k) d HI.out.rd).mono ?_
  rintro en w1 ⟨rfl, hr1, hk1⟩
  have HR1 := hid hr1
  have HK1 := hid hk1
  clear hr1 hk1
  have HRS1 := hid (HI.out.one.kp HK1.out (by omega))
  have HKA1 := hid (HI.out.kp.trans HK1.out)
  have ht1 := HK1.out.size
  go_wp2_with fail
  refine (hE w1 b s z (Sy.nextA z S) d HR1.out HMA.out).mono ?_
  rintro en w2 ⟨a2, l2, c2, rfl, HKd2, HR2, HK2⟩
  generalize hy2 : Sy.exprA z N k (Sy.nextA z S) = y2 at *
  have HY2 := hid hy2
  clear hy2
  obtain ⟨W2, hW2, HV2, HRd2, HKp2, hs2, ht2⟩ := var_new HKd2.out HR2.out HK2.out 35
  have HRS2 := hid (HRS1.out.kp HKp2.out (by omega))
  have HKA2 := hid (HKA1.out.trans HKp2.out)
  have HMU1 := hid (Sy.mu_expr z N k (Sy.nextA z S))
  rw [HY2.out] at HMU1
  go_wp2_with fail
  try rw [hW2]
  clear hW2
  refine (must_m _ b s z y2.2 (200 - k) d Sy.w_with HRd2.out).mono ?_
  rintro en w3 ⟨rfl, hr3, hk3⟩
  have HR3 := hid hr3
  have HK3 := hid hk3
  clear hr3 hk3
  have HV2x3 := hid (HV2.out.kp HK3.out (by omega) (by omega))
  have HRS3 := hid (HRS2.out.kp HK3.out (by omega))
  have HKA3 := hid (HKA2.out.trans HK3.out)
  have ht3 := HK3.out.size
  go_wp2_with fail
  refine (must_m _ b s z (Sy.mustA z Sy.w_with y2.2) (200 - k) d Sy.s_lb HR3.out).mono ?_
  rintro en w4 ⟨rfl, hr4, hk4⟩
  have HR4 := hid hr4
  have HK4 := hid hk4
  clear hr4 hk4
  have HV2x4 := hid (HV2x3.out.kp HK4.out (by omega) (by omega))
  have HRS4 := hid (HRS3.out.kp HK4.out (by omega))
  have HKA4 := hid (HKA3.out.trans HK4.out)
  have ht4 := HK4.out.size
  have HMUU := hid (Nat.le_trans (Sy.mu_must z Sy.s_lb (Sy.mustA z Sy.w_with y2.2)) (Sy.mu_must z Sy.w_with y2.2))
  generalize hu : (Sy.mustA z Sy.s_lb (Sy.mustA z Sy.w_with y2.2)) = u at *
  have HU := hid hu
  clear hu
  obtain ⟨p5, hb5, _⟩ := HR4.out.cells
  have c5_2 := (hb5 2 _ rfl).1
  clear hb5
  go_wp2_with fail
  refine (must_m _ b s z u (200 - k) d Sy.w_return HR4.out).mono ?_
  rintro en w6 ⟨rfl, hr6, hk6⟩
  have HR6 := hid hr6
  have HK6 := hid hk6
  clear hr6 hk6
  have HV2x6 := hid (HV2x4.out.kp HK6.out (by omega) (by omega))
  have HRS6 := hid (HRS4.out.kp HK6.out (by omega))
  have HKA6 := hid (HKA4.out.trans HK6.out)
  have ht6 := HK6.out.size
  go_wp2_with fail
  refine (name_m _ b s z (Sy.mustA z Sy.w_return u) (200 - k) d HR6.out).mono ?_
  rintro en w7 ⟨rfl, hr7, hk7⟩
  have HR7 := hid hr7
  have HK7 := hid hk7
  clear hr7 hk7
  have HV2x7 := hid (HV2x6.out.kp HK7.out (by omega) (by omega))
  have HRS7 := hid (HRS6.out.kp HK7.out (by omega))
  have HKA7 := hid (HKA6.out.trans HK7.out)
  have ht7 := HK7.out.size
  have HMQ := hid (Nat.le_trans (Sy.mu_name z (Sy.mustA z Sy.w_return u)) (Sy.mu_must z Sy.w_return u))
  generalize hq : Sy.nameA z (Sy.mustA z Sy.w_return u) = q at *
  have HQ := hid hq
  clear hq
  go_wp2_with fail
  refine (must_m _ b s z q.2 (200 - k) d Sy.s_to HR7.out).mono ?_
  rintro en w8 ⟨rfl, hr8, hk8⟩
  have HR8 := hid hr8
  have HK8 := hid hk8
  clear hr8 hk8
  have HV2x8 := hid (HV2x7.out.kp HK8.out (by omega) (by omega))
  have HRS8 := hid (HRS7.out.kp HK8.out (by omega))
  have HKA8 := hid (HKA7.out.trans HK8.out)
  have ht8 := HK8.out.size
  go_wp2_with fail
  have HM2 : Hid (Sy.mu (Sy.mustA z Sy.s_to q.2) < N) := by have h1 := Sy.mu_must z Sy.s_to q.2; have h2 := HMQ.out; have h3 := HMUU.out; have h4 := HMU1.out; have h5 := HMA.out; simp only [Hid]; omega
  refine (hE w8 b s z (Sy.mustA z Sy.s_to q.2) d HR8.out HM2.out).mono ?_
  rintro en w9 ⟨a9, l9, c9, rfl, HKd9, HR9, HK9⟩
  generalize hy9 : Sy.exprA z N k (Sy.mustA z Sy.s_to q.2) = y9 at *
  have HY9 := hid hy9
  clear hy9
  obtain ⟨W9, hW9, HV9, HRd9, HKp9, hs9, ht9⟩ := var_new HKd9.out HR9.out HK9.out 35
  have HV2x9 := hid (HV2x8.out.kp HKp9.out (by omega) (by omega))
  have HRS9 := hid (HRS8.out.kp HKp9.out (by omega))
  have HKA9 := hid (HKA8.out.trans HKp9.out)
  have HMU2 := hid (Sy.mu_expr z N k (Sy.mustA z Sy.s_to q.2))
  rw [HY9.out] at HMU2
  obtain ⟨⟨q2_0, q2_1, q2_2, q2_3, q2_4⟩, q2_5, q2_6, q2_7, q2_8, q2_9⟩ := blk5 HV2x9.out.cells
  obtain ⟨⟨q9_0, q9_1, q9_2, q9_3, q9_4⟩, q9_5, q9_6, q9_7, q9_8, q9_9⟩ := blk5 HV9.out.cells
  go_wp2_with fail
  try rw [hW9]
  clear hW9
  have hlt2 : w2.heap.size < W9.heap.size := HV2x9.out.cells.lt
  have hlt9 : w9.heap.size < W9.heap.size := HV9.out.cells.lt
  go_region_held3 (fun w' => w'.cell? ⟨w2.heap.size, 0, none⟩ = some (.int .i64 y2.1.kind) ∧ w'.cell? ⟨w2.heap.size, 1, none⟩ = some (.int .i64 y2.1.pos) ∧ w'.cell? ⟨w2.heap.size, 2, none⟩ = some (.string ⟨y2.1.name.toArray⟩) ∧ w'.cell? ⟨w2.heap.size, 3, none⟩ = some (.int .i64 y2.1.num) ∧ w'.cell? ⟨w2.heap.size, 4, none⟩ = some (.slice a2 l2 c2) ∧ w'.cell? ⟨w9.heap.size, 0, none⟩ = some (.int .i64 y9.1.kind) ∧ w'.cell? ⟨w9.heap.size, 1, none⟩ = some (.int .i64 y9.1.pos) ∧ w'.cell? ⟨w9.heap.size, 2, none⟩ = some (.string ⟨y9.1.name.toArray⟩) ∧ w'.cell? ⟨w9.heap.size, 3, none⟩ = some (.int .i64 y9.1.num) ∧ w'.cell? ⟨w9.heap.size, 4, none⟩ = some (.slice a9 l9 c9)) (go_keep)
   ((go_at_call 20; refine (named_m _ _ _ _ _ _ _).mono ?_; rintro en wA ⟨rfl, HBA⟩; have jc2_0 := (bcell HBA.out).1 w2.heap.size 0 (by simp; omega); have jc2_1 := (bcell HBA.out).1 w2.heap.size 1 (by simp; omega); have jc2_2 := (bcell HBA.out).1 w2.heap.size 2 (by simp; omega); have jc2_3 := (bcell HBA.out).1 w2.heap.size 3 (by simp; omega); have jc2_4 := (bcell HBA.out).1 w2.heap.size 4 (by simp; omega); have jc9_0 := (bcell HBA.out).1 w9.heap.size 0 (by simp; omega); have jc9_1 := (bcell HBA.out).1 w9.heap.size 1 (by simp; omega); have jc9_2 := (bcell HBA.out).1 w9.heap.size 2 (by simp; omega); have jc9_3 := (bcell HBA.out).1 w9.heap.size 3 (by simp; omega); have jc9_4 := (bcell HBA.out).1 w9.heap.size 4 (by simp; omega); have hzA := HBA.out.size; simp at hzA; have lz2 : w2.heap.size < wA.heap.size := (by omega); have lz9 : w9.heap.size < wA.heap.size := (by omega)))
  have HBL : Hid (Below W9.heap.size W9 wA) := (((Below.refl _ _).drew).alloc (Nat.le_refl _) _).trans (HBA.out.mono (by simp))
  have HKN := hid (kids_newH (w1 := W9.drew) (F := fun q => W0.heap.size ≤ q) (w9.heap.size + 1) hs9 [(y9.1, .slice a9 l9 c9)] (by simp) (by show W0.heap.size ≤ _; omega) (by intro p hp; simp only [List.mem_cons, or_false, List.not_mem_nil] at hp; rcases hp with rfl; exact (HV9.out.kids.free (by omega)).pastF (Below.refl _ _).drew) _ rfl 1 rfl HBA.out)
  have HRW := hid (rowS_lit (W := wA) (lo := W0.heap.size) [(y2.1, .slice a2 l2 c2), (Sy.nm 21 u.t.pos q.1.1 [y9.1], .slice (some ⟨w9.heap.size + 1, 0, none⟩) 1 1)] (by simp) wA.heap.size rfl _ rfl 2 rfl (by decide) (by omega) (by intro p hp; simp only [List.mem_cons, or_false, List.not_mem_nil] at hp; rcases hp with rfl | rfl; exact (HV2x9.out.kids.free (by omega)).pastF HBL.out; exact HKN.out))
  have HL : Hid (Rw w b w.heap.size W0.heap.size s z y9.2 (200 - k) d (.slice (some ⟨wA.heap.size, 0, none⟩) 2 2) _ _) := ⟨HRW.out, ⟨_, _, _, _, _, (HRS9.out.past HBL.out).alloc _⟩, (HRd9.out.below HBL.out HRd9.out.lt).alloc _, (HKA9.out.below HBL.out).alloc _, by have := HBL.out.size; simp; omega⟩
  go_wp2_with fail
  have HTOT : Hid (Sy.handleA z N (Sy.exprA z N k) p S = (.mk 20 p [] 1 (Sy.clausesA z (Sy.exprA z N k) N [y2.1, Sy.nm 21 u.t.pos q.1.1 [y9.1]] y9.2).1, Sy.mustA z Sy.s_rb (Sy.clausesA z (Sy.exprA z N k) N [y2.1, Sy.nm 21 u.t.pos q.1.1 [y9.1]] y9.2).2)) := by
   simp only [Hid, Sy.handleA, h1, HY2.out, HU.out, HQ.out, HY9.out]; rfl
  have HMY : Hid (Sy.mu y9.2 < N) := Nat.lt_of_le_of_lt HMU2.out HM2.out
  generalize hcl : Sy.clausesA z (Sy.exprA z N k) N [y2.1, Sy.nm 21 u.t.pos q.1.1 [y9.1]] y9.2 = cl at *
  have HCL := hid hcl
  clear hcl
  go_loopg [11] N (fun n v wr => ∃ (ls : List (Sy.Tr × Value)) (S1 : Sy.RS), Hid (Rw w b w.heap.size W0.heap.size s z S1 (200 - k) d v ls wr) ∧ Hid (Sy.clausesA z (Sy.exprA z N k) n (ls.map (·.1)) S1 = cl) ∧ Hid (Sy.mu S1 < N) ∧ Hid (Sy.mu S1 < n) ∧ Hid (ls.length + n = N + 2) ∧ ls ≠ [])
  case atStart => exact ⟨_, _, HL, HCL, HMY, HMY, by simp only [Hid, List.length_cons, List.length_nil]; omega, by simp⟩
  case round =>
   obtain ⟨ls, S1, HLr, HEQ, HMS, HMN, HLN, hne0⟩ := hrel; obtain ⟨m, hm⟩ : ∃ m, gk = m + 1 := ⟨gk - 1, by have := HMN.out; omega⟩; subst hm; have hzr := HLr.out.size; obtain ⟨gr, capr, hvr⟩ := HLr.out.row.form hne0; subst hvr; have HLB := hid (len_bytes (n := ls.length) (N := N + 2) (by have := HLN.out; omega) (by omega)); obtain ⟨r0, r1, r2, r3, r4, HRSA0⟩ := HLr.out.res; have HRSA := hid HRSA0; clear HRSA0
   cases hbar : Sy.isA Sy.s_bar S1 with
   | false =>
    have HX : Hid (Sy.handleA z N (Sy.exprA z N k) p S = (.mk 20 p [] 1 (ls.map (·.1)), Sy.mustA z Sy.s_rb S1)) := by
     have e : cl = (ls.map (·.1), S1) := by rw [← HEQ.out, Sy.clausesA]; simp [hbar]
     rw [Hid, HTOT.out, e]
    go_wp2_with fail
    refine (has_no _ b s z S1 (200 - k) d Sy.s_bar HLr.out.rd hbar).mono ?_; rintro en w' ⟨rfl, rfl⟩
    go_wp2_with fail
    refine (must_m _ b s z S1 (200 - k) d Sy.s_rb HLr.out.rd).mono ?_; rintro en w21 ⟨rfl, hr21, hk21⟩; have HR21 := hid hr21; have HK21 := hid hk21; clear hr21 hk21; have HRS21 := hid (HRSA.out.kp HK21.out (by omega)); have HKA21 := hid (HLr.out.kp.trans HK21.out); have ht21 := HK21.out.size; have HLm := hid (HLr.out.row.kp HK21.out (by omega))
    go_wp2_with fail
    refine (node_m _ _ _ _ _ _).mono ?_; rintro en w22 ⟨rfl, HB22⟩; have HRS22 := hid (HRS21.out.past HB22.out); have HKA22 := hid (HKA21.out.below HB22.out); have HR22 := hid (HR21.out.below HB22.out HR21.out.lt); have ht22 := HB22.out.size; have HKN2 := hid ((HLm.out.kidsOf hne0 rfl).pastF HB22.out); obtain ⟨⟨u0, u1, u2, u3, u4⟩, u5, u6, u7, u8, u9⟩ := blk5 HRS22.out; have hlw : w.heap.size < w22.heap.size := HRS22.out.lt
    go_wp2_with fail
    refine bodyPost_ret (v := .agg #[.int .i64 20, .int .i64 p, .string ⟨#[]⟩, .int .i64 1, .slice (some ⟨gr, 0, none⟩) ls.length capr]) (by simp [results, Try.results75, go_sem, u0, u1, u2, u3, u4, hlw]) rfl ?_; refine NRes.alloc ?_ _; exact nres_fin (lo := W0.heap.size) (.mk 20 p [] 1 (ls.map (·.1))) (Sy.mustA z Sy.s_rb S1) HKN2.out HR22.out HKA22.out HX.out (by omega) (by omega) (by omega) _ _ _ _ rfl rfl rfl rfl _ _ _ _ _
   | true =>
    have HMA2 := hid (Sy.mu_is z hbar)
    go_wp2_with fail
    refine (has_yes _ b s z S1 (200 - k) d Sy.s_bar HLr.out.rd hbar).mono ?_; rintro en w21 ⟨rfl, hr21, hk21⟩; have HR21 := hid hr21; have HK21 := hid hk21; clear hr21 hk21; have HRS21 := hid (HRSA.out.kp HK21.out (by omega)); have HKA21 := hid ((Kp.refl b wr).trans HK21.out); have ht21 := HK21.out.size
    go_wp2_with fail
    refine (name_m _ b s z (Sy.nextA z S1) (200 - k) d HR21.out).mono ?_; rintro en w22 ⟨rfl, hr22, hk22⟩; have HR22 := hid hr22; have HK22 := hid hk22; clear hr22 hk22; have HRS22 := hid (HRS21.out.kp HK22.out (by omega)); have HKA22 := hid (HKA21.out.trans HK22.out); have ht22 := HK22.out.size; have HMo := hid (Sy.mu_name z (Sy.nextA z S1)); generalize ho : Sy.nameA z (Sy.nextA z S1) = o at *; have HHo := hid ho; clear ho
    go_wp2_with fail
    refine (name_m _ b s z o.2 (200 - k) d HR22.out).mono ?_; rintro en w23 ⟨rfl, hr23, hk23⟩; have HR23 := hid hr23; have HK23 := hid hk23; clear hr23 hk23; have HRS23 := hid (HRS22.out.kp HK23.out (by omega)); have HKA23 := hid (HKA22.out.trans HK23.out); have ht23 := HK23.out.size; have HMyy := hid (Sy.mu_name z o.2); generalize hyy : Sy.nameA z o.2 = yy at *; have HHyy := hid hyy; clear hyy
    go_wp2_with fail
    refine (name_m _ b s z yy.2 (200 - k) d HR23.out).mono ?_; rintro en w24 ⟨rfl, hr24, hk24⟩; have HR24 := hid hr24; have HK24 := hid hk24; clear hr24 hk24; have HRS24 := hid (HRS23.out.kp HK24.out (by omega)); have HKA24 := hid (HKA23.out.trans HK24.out); have ht24 := HK24.out.size; have HMkk := hid (Sy.mu_name z yy.2); generalize hkk : Sy.nameA z yy.2 = kk at *; have HHkk := hid hkk; clear hkk
    go_wp2_with fail
    refine (must_m _ b s z kk.2 (200 - k) d Sy.s_to HR24.out).mono ?_; rintro en w25 ⟨rfl, hr25, hk25⟩; have HR25 := hid hr25; have HK25 := hid hk25; clear hr25 hk25; have HRS25 := hid (HRS24.out.kp HK25.out (by omega)); have HKA25 := hid (HKA24.out.trans HK25.out); have ht25 := HK25.out.size
    go_wp2_with fail
    have HMC : Hid (Sy.mu (Sy.mustA z Sy.s_to kk.2) < m) := by have h1 := Sy.mu_must z Sy.s_to kk.2; have h2 := HMkk.out; have h3 := HMyy.out; have h4 := HMo.out; have h5 := HMA2.out; have h6 := HMN.out; simp only [Hid]; omega
    have HMC2 : Hid (Sy.mu (Sy.mustA z Sy.s_to kk.2) < N) := by have h1 := Sy.mu_must z Sy.s_to kk.2; have h2 := HMkk.out; have h3 := HMyy.out; have h4 := HMo.out; have h5 := HMA2.out; have h6 := HMS.out; simp only [Hid]; omega
    refine (hE w25 b s z (Sy.mustA z Sy.s_to kk.2) d HR25.out HMC2.out).mono ?_; rintro en w26 ⟨a26, l26, c26, rfl, HKd26, HR26, HK26⟩; generalize hy26 : Sy.exprA z N k (Sy.mustA z Sy.s_to kk.2) = y26 at *; have HY26 := hid hy26; clear hy26; obtain ⟨W26, hW26, HV26, HRd26, HKp26, hs26, ht26⟩ := var_new HKd26.out HR26.out HK26.out 35; have HRS26 := hid (HRS25.out.kp HKp26.out (by omega)); have HKA26 := hid (HKA25.out.trans HKp26.out); have HMU3 := hid (Sy.mu_expr z N k (Sy.mustA z Sy.s_to kk.2)); rw [HY26.out] at HMU3; obtain ⟨⟨q26_0, q26_1, q26_2, q26_3, q26_4⟩, q26_5, q26_6, q26_7, q26_8, q26_9⟩ := blk5 HV26.out.cells
    go_wp2_with fail
    try rw [hW26]
    clear hW26; have hltc : w26.heap.size < W26.heap.size := HV26.out.cells.lt; have HROW := hid (HLr.out.row.kp HKA26.out (by omega)); have hgr : gr < wr.heap.size := (HLr.out.row.own.lt gr rfl).2; have hgr2 : W0.heap.size ≤ gr := (HLr.out.row.own.lt gr rfl).1; have hnec : ¬ w26.heap.size = gr := by omega
    have HKX : Hid (Below W26.heap.size W26 W26.drew) := (Below.refl _ _).drew
    go_region_held3 (fun w' => w'.cell? ⟨w26.heap.size, 0, none⟩ = some (.int .i64 y26.1.kind) ∧ w'.cell? ⟨w26.heap.size, 1, none⟩ = some (.int .i64 y26.1.pos) ∧ w'.cell? ⟨w26.heap.size, 2, none⟩ = some (.string ⟨y26.1.name.toArray⟩) ∧ w'.cell? ⟨w26.heap.size, 3, none⟩ = some (.int .i64 y26.1.num) ∧ w'.cell? ⟨w26.heap.size, 4, none⟩ = some (.slice a26 l26 c26)) (go_keep)
     (first
      | (refine step_append_lies _ (by rfl) _ _ 33 (by rfl) W0.heap.size 35 i0 (.agg #[.int .i64 0, .int .i64 0, .string ⟨#[]⟩, .int .i64 0, .slice none 0 0]) 5 64 Try.underlying33 hi hiz0 hiz1 hiz2 rfl (by decide) (.slice (some ⟨gr, 0, none⟩) ls.length capr) ls.length (rowCells ls) (by rfl) HRX.out.own ⟨wN.heap.size, 0, none⟩ 1 1 (nodeCells (Sy.nm 22 o.1.2 o.1.1 [Sy.nm 23 yy.1.2 yy.1.1 [], Sy.nm 23 kk.1.2 kk.1.1 [], y26.1]) (.slice (some ⟨wA.heap.size, 0, none⟩) 3 3)) (by rfl) (by rfl) HNW.out (node_one _ _ _ _) (by decide) HLB.out.1 HLB.out.2 hbs _ rfl ?_; intro ga capa w9z hown hgrow hat hlt9; have jg0 := World.cell?_of_block (a := ⟨w26.heap.size, 0, none⟩) (hgrow.block w26.heap.size (by simp; omega) (by intro e; exact hnec (by simpa [Value.ownBlock] using e))); have jg1 := World.cell?_of_block (a := ⟨w26.heap.size, 1, none⟩) (hgrow.block w26.heap.size (by simp; omega) (by intro e; exact hnec (by simpa [Value.ownBlock] using e))); have jg2 := World.cell?_of_block (a := ⟨w26.heap.size, 2, none⟩) (hgrow.block w26.heap.size (by simp; omega) (by intro e; exact hnec (by simpa [Value.ownBlock] using e))); have jg3 := World.cell?_of_block (a := ⟨w26.heap.size, 3, none⟩) (hgrow.block w26.heap.size (by simp; omega) (by intro e; exact hnec (by simpa [Value.ownBlock] using e))); have jg4 := World.cell?_of_block (a := ⟨w26.heap.size, 4, none⟩) (hgrow.block w26.heap.size (by simp; omega) (by intro e; exact hnec (by simpa [Value.ownBlock] using e))))
      | (go_at_call_of 20 (Value.int .i64 23); refine (named_m _ _ _ _ _ _ _).mono ?_; rintro en wA ⟨rfl, HBA⟩; have jc0 := (bcell HBA.out).1 w26.heap.size 0 (by first | exact lzc | exact hltc); have jc1 := (bcell HBA.out).1 w26.heap.size 1 (by first | exact lzc | exact hltc); have jc2 := (bcell HBA.out).1 w26.heap.size 2 (by first | exact lzc | exact hltc); have jc3 := (bcell HBA.out).1 w26.heap.size 3 (by first | exact lzc | exact hltc); have jc4 := (bcell HBA.out).1 w26.heap.size 4 (by first | exact lzc | exact hltc); have hzA := HBA.out.size; (try simp at hzA); have lzc : w26.heap.size < wA.heap.size := (by omega); have HKX : Hid (Below W26.heap.size W26 wA) := hid (HKX.out.trans (HBA.out.mono HKX.out.size)))
      | (go_at_call_of 20 (Value.int .i64 22); refine (named_m _ _ _ _ _ _ _).mono ?_; rintro en wN ⟨rfl, HBN⟩; have jn0 := (bcell HBN.out).1 w26.heap.size 0 (by have := lzc; simp; omega); have jn1 := (bcell HBN.out).1 w26.heap.size 1 (by have := lzc; simp; omega); have jn2 := (bcell HBN.out).1 w26.heap.size 2 (by have := lzc; simp; omega); have jn3 := (bcell HBN.out).1 w26.heap.size 3 (by have := lzc; simp; omega); have jn4 := (bcell HBN.out).1 w26.heap.size 4 (by have := lzc; simp; omega); have hzN := HBN.out.size; (try simp at hzN); have hzK := HKX.out.size; have lzn : w26.heap.size < wN.heap.size := (by omega); have HKN := hid (kids_new (F := Fo W0.heap.size (.slice (some ⟨gr, 0, none⟩) ls.length capr)) [(Sy.nm 23 yy.1.2 yy.1.1 [], .slice none 0 0), (Sy.nm 23 kk.1.2 kk.1.1 [], .slice none 0 0), (y26.1, .slice a26 l26 c26)] (by simp) (show Fo _ _ wA.heap.size from ⟨by omega, by intro e; have e2 : wA.heap.size = gr := (by simpa [Value.ownBlock] using e); omega⟩) (by intro p hp; simp only [List.mem_cons, or_false, List.not_mem_nil] at hp; rcases hp with rfl | rfl | rfl; exact .nil; exact .nil; exact (HV26.out.kids.weak (fun q hq _ => ⟨by have := hq.1; omega, by intro e; have e2 : q = gr := (by simpa [Value.ownBlock] using e); have := hq.1; omega⟩)).carry (fun q _ hlt => HKX.out.block q hlt) (fun _ hq _ => hq)) _ rfl 3 rfl HBN.out); have HKY : Hid (Below W26.heap.size W26 wN) := hid ((HKX.out.alloc HKX.out.size _).trans (HBN.out.mono (Nat.le_trans HKX.out.size (by simp)))); have HRX := hid (RowS.alloc (HROW.out.past HKY.out) (.cells #[.int .i64 22, .int .i64 o.1.2, .string ⟨o.1.1.toArray⟩, .int .i64 0, .slice (some ⟨wA.heap.size, 0, none⟩) 3 3] 35)); have HNW := hid (node_news (w := wN) (T := (Sy.nm 22 o.1.2 o.1.1 [Sy.nm 23 yy.1.2 yy.1.1 [], Sy.nm 23 kk.1.2 kk.1.1 [], y26.1])) (a := some ⟨wA.heap.size, 0, none⟩) (l := 3) (c := 3) (ty := 35) (H := wN.heap.size) rfl); have hbs : W0.heap.size ≤ (wN.alloc (.cells #[.int .i64 22, .int .i64 o.1.2, .string ⟨o.1.1.toArray⟩, .int .i64 0, .slice (some ⟨wA.heap.size, 0, none⟩) 3 3] 35)).heap.size := (by simp; omega)))
    have HX0 : Hid (Rw w b w.heap.size W0.heap.size s z y26.2 (200 - k) d (.slice (some ⟨gr, 0, none⟩) ls.length capr) ls (wN.alloc (.cells #[.int .i64 22, .int .i64 o.1.2, .string ⟨o.1.1.toArray⟩, .int .i64 0, .slice (some ⟨wA.heap.size, 0, none⟩) 3 3] 35))) :=
     ⟨HRX.out, ⟨_, _, _, _, _, (HRS26.out.past HKY.out).alloc _⟩, (HRd26.out.below HKY.out HRd26.out.lt).alloc _, ((HLr.out.kp.trans HKA26.out).below HKY.out).alloc _, hbs⟩
    have HL9 := hid (HX0.out.app (T := (Sy.nm 22 o.1.2 o.1.1 [Sy.nm 23 yy.1.2 yy.1.1 [], Sy.nm 23 kk.1.2 kk.1.1 [], y26.1])) (kv := (.slice (some ⟨wA.heap.size, 0, none⟩) 3 3)) (by omega) (by omega) (by omega) hown hgrow hat (HKN.out.pastF ((Below.refl _ _).alloc (Nat.le_refl _) _)))
    have HEQ2 : Hid (Sy.clausesA z (Sy.exprA z N k) m ((ls ++ [((Sy.nm 22 o.1.2 o.1.1 [Sy.nm 23 yy.1.2 yy.1.1 [], Sy.nm 23 kk.1.2 kk.1.1 [], y26.1]), (Value.slice (some ⟨wA.heap.size, 0, none⟩) 3 3 : Value))]).map (·.1)) y26.2 = cl) := by
     have h := HEQ.out; rw [Sy.clausesA] at h; simp only [hbar, if_true, HHo.out, HHyy.out, HHkk.out, HY26.out] at h; simp only [Hid, List.map_append, List.map_cons, List.map_nil]; exact h
    go_wp2_with fail
    go_roundg m
    case measure => omega
    case rel => exact ⟨_, _, HL9, HEQ2, Nat.lt_of_le_of_lt HMU3.out HMC2.out, Nat.lt_of_le_of_lt HMU3.out HMC.out, by have := HLN.out; simp only [Hid, List.length_append, List.length_cons, List.length_nil]; omega, by simp⟩
end Go.Proofs.Ytejciampbnfbhaa
