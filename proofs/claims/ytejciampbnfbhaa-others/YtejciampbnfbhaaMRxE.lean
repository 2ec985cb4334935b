import Derived.Test.YtejciampbnfbhaaMRxC
set_option linter.unusedVariables false
set_option linter.unusedSimpArgs false
set_option maxRecDepth 100000
set_option maxHeartbeats 4000000
namespace Go.Proofs.Ytejciampbnfbhaa
open Go.RowKit
theorem app_m (N k : Nat) (hE : ExprOK N k) (hS : SquareOK N k) (w : World) (b : Nat) (s : ByteArray) (z : Sy.Env) (S : Sy.RS) (d : Nat) (h : Rd w b s z S (200 - k) d) (hm : Sy.mu S < N) :
  Calls Try.prog 96 #[.pointer (some ⟨b, 0, none⟩)] w fun en w' => NRes w b s z (Sy.appA z N (Sy.exprA z N k) S) (200 - k) d en w' := by
 obtain ⟨p, hb, _⟩ := h.cells
 have H := hid h
 have HM := hid hm
 have hlt := h.lt
 have c2 := (hb 2 _ rfl).1
 clear h hb hm
 cases h1 : Sy.isA Sy.w_do S with
 | true =>
  go_enter Try.func96, Try.ntmps96
  go_wp2_with fail
  obtain ⟨W0, hW0, HI⟩ := in1 H.out 35
  rw [hW0]
  have HW0 := hid hW0
  clear hW0
  have hz0 := HI.out.size
  have HX : Hid (Sy.appA z N (Sy.exprA z N k) S = (Sy.nm 19 S.t.pos (Sy.nameA z (Sy.nextA z S)).1.1 [(Sy.atomA z N (Sy.exprA z N k) (Sy.nameA z (Sy.nextA z S)).2).1], (Sy.atomA z N (Sy.exprA z N k) (Sy.nameA z (Sy.nextA z S)).2).2)) := by simp [Hid, Sy.appA, h1]
  have HMA : Hid (Sy.mu (Sy.nameA z (Sy.nextA z S)).2 < N) := Nat.lt_of_le_of_lt (Sy.mu_name z _) (Nat.lt_trans (Sy.mu_is z h1) HM.out)
  refine (has_yes _ b s z S (200 - k) d Sy.w_do HI.out.rd h1).mono ?_
  rintro en w1 ⟨rfl, hr1, hk1⟩
  have HR1 := hid hr1
  have HK1 := hid hk1
  clear hr1 hk1
  have HRS1 := hid (HI.out.one.kp HK1.out (by omega))
  have HKA1 := hid (HI.out.kp.trans HK1.out)
  have ht1 := HK1.out.size
  go_wp2_with fail
  refine (name_m _ b s z (Sy.nextA z S) (200 - k) d HR1.out).mono ?_
  rintro en w2 ⟨rfl, hr2, hk2⟩
  have HR2 := hid hr2
  have HK2 := hid hk2
  clear hr2 hk2
  have HRS2 := hid (HRS1.out.kp HK2.out (by omega))
  have HKA2 := hid (HKA1.out.trans HK2.out)
  have ht2 := HK2.out.size
  generalize hq : Sy.nameA z (Sy.nextA z S) = q at *
  have HQ := hid hq
  clear hq
  go_wp2_with fail
  refine (atom_m N k hE hS w2 b s z q.2 d HR2.out HMA.out).mono ?_
  rintro en w3 ⟨a3, l3, c3, rfl, HKd3, HR3, HK3⟩
  generalize hy3 : Sy.atomA z N (Sy.exprA z N k) q.2 = y3 at *
  have HY3 := hid hy3
  clear hy3
  obtain ⟨W3, hW3, HV3, HRd3, HKp3, hs3, ht3⟩ := var_new HKd3.out HR3.out HK3.out 35
  have HRS3 := hid (HRS2.out.kp HKp3.out (by omega))
  have HKA3 := hid (HKA2.out.trans HKp3.out)
  obtain ⟨⟨q3_0, q3_1, q3_2, q3_3, q3_4⟩, q3_5, q3_6, q3_7, q3_8, q3_9⟩ := blk5 HV3.out.cells
  go_wp2_with fail
  try rw [hW3]
  clear hW3
  refine (named_m _ _ _ _ _ _ _).mono ?_
  rintro en w4 ⟨rfl, HB4⟩
  have HKN4 := hid (kids_new (F := (fun g => W0.heap.size ≤ g)) [(y3.1, .slice a3 l3 c3)] (by simp) (by show W0.heap.size ≤ _; omega) (by intro p hp; simp only [List.mem_cons, or_false, List.not_mem_nil] at hp; rcases hp with rfl <;> first | exact HV3.out.kids.free (by omega)) _ rfl 1 rfl HB4.out)
  have HV3x4 := hid (HV3.out.past (Below.trans ((Below.refl _ _).alloc (Nat.le_refl _) _) (HB4.out.mono (by simp))))
  have HRS4 := hid (HRS3.out.past (Below.trans ((Below.refl _ _).alloc (Nat.le_refl _) _) (HB4.out.mono (by simp))))
  have HKA4 := hid (HKA3.out.below (Below.trans ((Below.refl _ _).alloc (Nat.le_refl _) _) (HB4.out.mono (by simp))))
  have HR4 := hid ((HRd3.out.alloc _).below HB4.out ((HRd3.out.alloc _).lt))
  obtain ⟨⟨u0, u1, u2, u3, u4⟩, u5, u6, u7, u8, u9⟩ := blk5 HRS4.out
  go_wp2_with fail
  refine bodyPost_ret (v := .agg #[.int .i64 19, .int .i64 S.t.pos, .string ⟨q.1.1.toArray⟩, .int .i64 0, .slice (some ⟨W3.heap.size, 0, none⟩) 1 1]) (by simp [results, Try.results96, go_sem, u0, u1, u2, u3, u4]) rfl ?_
  exact nres_fin (lo := W0.heap.size) (Sy.nm 19 S.t.pos q.1.1 [y3.1]) y3.2 HKN4.out HR4.out HKA4.out HX.out (by omega) (by omega) (by omega) _ _ _ _ rfl rfl rfl rfl _ _ _ _ _
 | false =>
  cases h2 : Sy.isA Sy.w_fst S with
  | true =>
   go_enter Try.func96, Try.ntmps96
   go_wp2_with fail
   obtain ⟨W0, hW0, HI⟩ := in1 H.out 35; rw [hW0]; have HW0 := hid hW0; clear hW0; have hz0 := HI.out.size; refine (has_no _ b s z S (200 - k) d Sy.w_do HI.out.rd h1).mono ?_; rintro en w' ⟨rfl, rfl⟩
   go_wp2_with fail
   have HX : Hid (Sy.appA z N (Sy.exprA z N k) S = (Sy.nd 13 S.t.pos [(Sy.atomA z N (Sy.exprA z N k) (Sy.nextA z S)).1], (Sy.atomA z N (Sy.exprA z N k) (Sy.nextA z S)).2)) := by simp [Hid, Sy.appA, h1, h2]
   have HMA : Hid (Sy.mu (Sy.nextA z S) < N) := Nat.lt_trans (Sy.mu_is z h2) HM.out; refine (has_yes _ b s z S (200 - k) d Sy.w_fst HI.out.rd h2).mono ?_; rintro en w1 ⟨rfl, hr1, hk1⟩; have HR1 := hid hr1; have HK1 := hid hk1; clear hr1 hk1; have HRS1 := hid (HI.out.one.kp HK1.out (by omega)); have HKA1 := hid (HI.out.kp.trans HK1.out); have ht1 := HK1.out.size
   go_wp2_with fail
   refine (atom_m N k hE hS w1 b s z (Sy.nextA z S) d HR1.out HMA.out).mono ?_; rintro en w2 ⟨a2, l2, c2, rfl, HKd2, HR2, HK2⟩; generalize hy2 : Sy.atomA z N (Sy.exprA z N k) (Sy.nextA z S) = y2 at *; have HY2 := hid hy2; clear hy2; obtain ⟨W2, hW2, HV2, HRd2, HKp2, hs2, ht2⟩ := var_new HKd2.out HR2.out HK2.out 35; have HRS2 := hid (HRS1.out.kp HKp2.out (by omega)); have HKA2 := hid (HKA1.out.trans HKp2.out); obtain ⟨⟨q2_0, q2_1, q2_2, q2_3, q2_4⟩, q2_5, q2_6, q2_7, q2_8, q2_9⟩ := blk5 HV2.out.cells
   go_wp2_with fail
   try rw [hW2]
   clear hW2; refine (node_m _ _ _ _ _ _).mono ?_; rintro en w3 ⟨rfl, HB3⟩; have HKN3 := hid (kids_new (F := (fun g => W0.heap.size ≤ g)) [(y2.1, .slice a2 l2 c2)] (by simp) (by show W0.heap.size ≤ _; omega) (by intro p hp; simp only [List.mem_cons, or_false, List.not_mem_nil] at hp; rcases hp with rfl <;> first | exact HV2.out.kids.free (by omega)) _ rfl 1 rfl HB3.out); have HV2x3 := hid (HV2.out.past (Below.trans ((Below.refl _ _).alloc (Nat.le_refl _) _) (HB3.out.mono (by simp)))); have HRS3 := hid (HRS2.out.past (Below.trans ((Below.refl _ _).alloc (Nat.le_refl _) _) (HB3.out.mono (by simp)))); have HKA3 := hid (HKA2.out.below (Below.trans ((Below.refl _ _).alloc (Nat.le_refl _) _) (HB3.out.mono (by simp)))); have HR3 := hid ((HRd2.out.alloc _).below HB3.out ((HRd2.out.alloc _).lt)); obtain ⟨⟨u0, u1, u2, u3, u4⟩, u5, u6, u7, u8, u9⟩ := blk5 HRS3.out
   go_wp2_with fail
   refine bodyPost_ret (v := .agg #[.int .i64 13, .int .i64 S.t.pos, .string ⟨#[]⟩, .int .i64 0, .slice (some ⟨W2.heap.size, 0, none⟩) 1 1]) (by simp [results, Try.results96, go_sem, u0, u1, u2, u3, u4]) rfl ?_; exact nres_fin (lo := W0.heap.size) (Sy.nd 13 S.t.pos [y2.1]) y2.2 HKN3.out HR3.out HKA3.out HX.out (by omega) (by omega) (by omega) _ _ _ _ rfl rfl rfl rfl _ _ _ _ _
  | false =>
   cases h3 : Sy.isA Sy.w_snd S with
   | true =>
    go_enter Try.func96, Try.ntmps96
    go_wp2_with fail
    obtain ⟨W0, hW0, HI⟩ := in1 H.out 35; rw [hW0]; have HW0 := hid hW0; clear hW0; have hz0 := HI.out.size; refine (has_no _ b s z S (200 - k) d Sy.w_do HI.out.rd h1).mono ?_; rintro en w' ⟨rfl, rfl⟩
    go_wp2_with fail
    refine (has_no _ b s z S (200 - k) d Sy.w_fst HI.out.rd h2).mono ?_; rintro en w' ⟨rfl, rfl⟩
    go_wp2_with fail
    have HX : Hid (Sy.appA z N (Sy.exprA z N k) S = (Sy.nd 14 S.t.pos [(Sy.atomA z N (Sy.exprA z N k) (Sy.nextA z S)).1], (Sy.atomA z N (Sy.exprA z N k) (Sy.nextA z S)).2)) := by simp [Hid, Sy.appA, h1, h2, h3]
    have HMA : Hid (Sy.mu (Sy.nextA z S) < N) := Nat.lt_trans (Sy.mu_is z h3) HM.out; refine (has_yes _ b s z S (200 - k) d Sy.w_snd HI.out.rd h3).mono ?_; rintro en w1 ⟨rfl, hr1, hk1⟩; have HR1 := hid hr1; have HK1 := hid hk1; clear hr1 hk1; have HRS1 := hid (HI.out.one.kp HK1.out (by omega)); have HKA1 := hid (HI.out.kp.trans HK1.out); have ht1 := HK1.out.size
    go_wp2_with fail
    refine (atom_m N k hE hS w1 b s z (Sy.nextA z S) d HR1.out HMA.out).mono ?_; rintro en w2 ⟨a2, l2, c2, rfl, HKd2, HR2, HK2⟩; generalize hy2 : Sy.atomA z N (Sy.exprA z N k) (Sy.nextA z S) = y2 at *; have HY2 := hid hy2; clear hy2; obtain ⟨W2, hW2, HV2, HRd2, HKp2, hs2, ht2⟩ := var_new HKd2.out HR2.out HK2.out 35; have HRS2 := hid (HRS1.out.kp HKp2.out (by omega)); have HKA2 := hid (HKA1.out.trans HKp2.out); obtain ⟨⟨q2_0, q2_1, q2_2, q2_3, q2_4⟩, q2_5, q2_6, q2_7, q2_8, q2_9⟩ := blk5 HV2.out.cells
    go_wp2_with fail
    try rw [hW2]
    clear hW2; refine (node_m _ _ _ _ _ _).mono ?_; rintro en w3 ⟨rfl, HB3⟩; have HKN3 := hid (kids_new (F := (fun g => W0.heap.size ≤ g)) [(y2.1, .slice a2 l2 c2)] (by simp) (by show W0.heap.size ≤ _; omega) (by intro p hp; simp only [List.mem_cons, or_false, List.not_mem_nil] at hp; rcases hp with rfl <;> first | exact HV2.out.kids.free (by omega)) _ rfl 1 rfl HB3.out); have HV2x3 := hid (HV2.out.past (Below.trans ((Below.refl _ _).alloc (Nat.le_refl _) _) (HB3.out.mono (by simp)))); have HRS3 := hid (HRS2.out.past (Below.trans ((Below.refl _ _).alloc (Nat.le_refl _) _) (HB3.out.mono (by simp)))); have HKA3 := hid (HKA2.out.below (Below.trans ((Below.refl _ _).alloc (Nat.le_refl _) _) (HB3.out.mono (by simp)))); have HR3 := hid ((HRd2.out.alloc _).below HB3.out ((HRd2.out.alloc _).lt)); obtain ⟨⟨u0, u1, u2, u3, u4⟩, u5, u6, u7, u8, u9⟩ := blk5 HRS3.out
    go_wp2_with fail
    refine bodyPost_ret (v := .agg #[.int .i64 14, .int .i64 S.t.pos, .string ⟨#[]⟩, .int .i64 0, .slice (some ⟨W2.heap.size, 0, none⟩) 1 1]) (by simp [results, Try.results96, go_sem, u0, u1, u2, u3, u4]) rfl ?_; exact nres_fin (lo := W0.heap.size) (Sy.nd 14 S.t.pos [y2.1]) y2.2 HKN3.out HR3.out HKA3.out HX.out (by omega) (by omega) (by omega) _ _ _ _ rfl rfl rfl rfl _ _ _ _ _
   | false =>
    go_enter Try.func96, Try.ntmps96
    go_wp2_with fail
    obtain ⟨W0, hW0, HI⟩ := in1 H.out 35; rw [hW0]; have HW0 := hid hW0; clear hW0; have hz0 := HI.out.size; refine (has_no _ b s z S (200 - k) d Sy.w_do HI.out.rd h1).mono ?_; rintro en w' ⟨rfl, rfl⟩
    go_wp2_with fail
    refine (has_no _ b s z S (200 - k) d Sy.w_fst HI.out.rd h2).mono ?_; rintro en w' ⟨rfl, rfl⟩
    go_wp2_with fail
    refine (has_no _ b s z S (200 - k) d Sy.w_snd HI.out.rd h3).mono ?_; rintro en w' ⟨rfl, rfl⟩
    go_wp2_with fail
    have HT : Hid (Sy.appA z N (Sy.exprA z N k) S = Sy.appsA z N (Sy.exprA z N k) N (Sy.atomA z N (Sy.exprA z N k) S).1 (Sy.atomA z N (Sy.exprA z N k) S).2) := by simp [Hid, Sy.appA, h1, h2, h3]
    have HMY : Hid (Sy.mu (Sy.atomA z N (Sy.exprA z N k) S).2 < N) := Nat.lt_of_le_of_lt (Sy.mu_atom z N (Sy.mu_expr z N k) S).1 HM.out; refine (atom_m N k hE hS W0 b s z S d HI.out.rd HM.out).mono ?_; rintro en w1 ⟨a1, l1, c1, rfl, HKd1, HR1, HK1⟩; generalize hy1 : Sy.atomA z N (Sy.exprA z N k) S = y1 at *; have HY1 := hid hy1; clear hy1; obtain ⟨W1, hW1, HV1, HRd1, HKp1, hs1, ht1⟩ := var_new HKd1.out HR1.out HK1.out 35; have HRS1 := hid (HI.out.one.kp HKp1.out (by omega)); have HKA1 := hid (HI.out.kp.trans HKp1.out)
    go_wp2_with fail
    try rw [hW1]
    clear hW1; have HL : Hid (Lv w b w1.heap.size w.heap.size W0.heap.size s z y1 (200 - k) d W1) := ⟨⟨a1, l1, c1, HV1.out⟩, ⟨_, _, _, _, _, HRS1.out⟩, HRd1.out, HKA1.out⟩
    go_loopg [] N (fun n wr => ∃ x : Sy.Tr × Sy.RS, Hid (Lv w b w1.heap.size w.heap.size W0.heap.size s z x (200 - k) d wr) ∧ Hid (Sy.appsA z N (Sy.exprA z N k) n x.1 x.2 = Sy.appA z N (Sy.exprA z N k) S) ∧ Hid (Sy.mu x.2 < n) ∧ Hid (Sy.mu x.2 < N))
    case atStart => exact ⟨y1, HL, by rw [Hid, HT.out], HMY.out, HMY.out⟩
    case round =>
     obtain ⟨x, HL, HE, HMX, HMX2⟩ := hrel; obtain ⟨m, hm⟩ : ∃ m, gk = m + 1 := ⟨gk - 1, by have := HMX.out; omega⟩; subst hm; obtain ⟨a, l, c, HVA0⟩ := HL.out.var; have HVA := hid HVA0; clear HVA0; obtain ⟨r0, r1, r2, r3, r4, HRSA0⟩ := HL.out.res; have HRSA := hid HRSA0; clear HRSA0; have hAr := HVA.out.lt; have hkz := HL.out.kp.size; have HMN := HMX2
     cases hl : Sy.beginsA x.2 with
     | false =>
      have HX : Hid (Sy.appA z N (Sy.exprA z N k) S = (x.1, x.2)) := by rw [Hid, ← HE.out, Sy.appsA]; simp [hl]
      obtain ⟨⟨qA_0, qA_1, qA_2, qA_3, qA_4⟩, qA_5, qA_6, qA_7, qA_8, qA_9⟩ := blk5 HVA.out.cells
      go_wp2_with fail
      refine (begins_m _ b s z x.2 (200 - k) d HL.out.rd).mono ?_; rintro en w' ⟨rfl, rfl⟩; obtain ⟨⟨u0, u1, u2, u3, u4⟩, u5, u6, u7, u8, u9⟩ := blk5 HRSA.out
      go_wp2_with fail
      refine bodyPost_ret (v := .agg #[.int .i64 x.1.kind, .int .i64 x.1.pos, .string ⟨x.1.name.toArray⟩, .int .i64 x.1.num, .slice a l c]) (by simp [results, Try.results96, go_sem, u0, u1, u2, u3, u4]) rfl ?_; exact nres_fin (lo := W0.heap.size) x.1 x.2 (HVA.out.kids.free (Nat.le_refl _)) HL.out.rd HL.out.kp HX.out (by omega) (by omega) (by omega) _ _ _ _ rfl rfl rfl rfl _ _ _ _ _
     | true =>
      have HX : Hid (Sy.appsA z N (Sy.exprA z N k) m (Sy.nd 8 x.1.pos [x.1, (Sy.atomA z N (Sy.exprA z N k) x.2).1]) (Sy.atomA z N (Sy.exprA z N k) x.2).2 = Sy.appA z N (Sy.exprA z N k) S) := by rw [Hid, ← HE.out, Sy.appsA]; simp [hl]
      have HMA : Hid (Sy.mu (Sy.atomA z N (Sy.exprA z N k) x.2).2 < m) := by have h1 := (Sy.mu_atom z N (Sy.mu_expr z N k) x.2).2 hl; have h2 := HMX.out; simp only [Hid]; omega
      have HMB : Hid (Sy.mu x.2 < N) := HMN.out; have HMC : Hid (Sy.mu (Sy.atomA z N (Sy.exprA z N k) x.2).2 < N) := Nat.lt_of_le_of_lt (Sy.mu_atom z N (Sy.mu_expr z N k) x.2).1 HMN.out
      go_wp2_with fail
      refine (begins_m _ b s z x.2 (200 - k) d HL.out.rd).mono ?_; rintro en w' ⟨rfl, rfl⟩
      go_wp2_with fail
      refine (atom_m N k hE hS wr b s z x.2 d HL.out.rd HMB.out).mono ?_; rintro en w21 ⟨a21, l21, c21, rfl, HKd21, HR21, HK21⟩; generalize hy21 : Sy.atomA z N (Sy.exprA z N k) x.2 = y21 at *; have HY21 := hid hy21; clear hy21; obtain ⟨W21, hW21, HV21, HRd21, HKp21, hs21, ht21⟩ := var_new HKd21.out HR21.out HK21.out 35; have HVAx21 := hid (HVA.out.kp HKp21.out (by omega) (by omega)); have HRS21 := hid (HRSA.out.kp HKp21.out (by omega)); have HKA21 := hid (HL.out.kp.trans HKp21.out); obtain ⟨⟨qA_0, qA_1, qA_2, qA_3, qA_4⟩, qA_5, qA_6, qA_7, qA_8, qA_9⟩ := blk5 HVAx21.out.cells; obtain ⟨⟨q21_0, q21_1, q21_2, q21_3, q21_4⟩, q21_5, q21_6, q21_7, q21_8, q21_9⟩ := blk5 HV21.out.cells
      go_wp2_with fail
      try rw [hW21]
      clear hW21; refine (node_m _ _ _ _ _ _).mono ?_; rintro en w22 ⟨rfl, HB22⟩; have HKN22 := hid (kids_new (F := (Fr W0.heap.size w1.heap.size)) [(x.1, .slice a l c), (y21.1, .slice a21 l21 c21)] (by simp) (by exact ⟨by omega, by omega⟩) (by intro p hp; simp only [List.mem_cons, or_false, List.not_mem_nil] at hp; rcases hp with rfl | rfl <;> first | exact HVAx21.out.kids | exact HV21.out.kids.weak (fun g hg _ => ⟨by have := hg.1; omega, by have := hg.1; omega⟩)) _ rfl 2 rfl HB22.out); have HVAx22 := hid (HVAx21.out.past (Below.trans ((Below.refl _ _).alloc (Nat.le_refl _) _) (HB22.out.mono (by simp)))); have HV21x22 := hid (HV21.out.past (Below.trans ((Below.refl _ _).alloc (Nat.le_refl _) _) (HB22.out.mono (by simp)))); have HRS22 := hid (HRS21.out.past (Below.trans ((Below.refl _ _).alloc (Nat.le_refl _) _) (HB22.out.mono (by simp)))); have HKA22 := hid (HKA21.out.below (Below.trans ((Below.refl _ _).alloc (Nat.le_refl _) _) (HB22.out.mono (by simp)))); have HR22 := hid ((HRd21.out.alloc _).below HB22.out ((HRd21.out.alloc _).lt)); have HAC23 := hid HVAx22.out.cells; obtain ⟨⟨v0, v1, v2, v3, v4⟩, v5, v6, v7, v8, v9⟩ := blk5 HAC23.out; obtain ⟨V23, hV23, HL23⟩ := lv_put (w := w) (lo := W0.heap.size) HAC23.out HRS22.out (by omega) (by omega) (by omega) HR22.out (Sy.nd 8 x.1.pos [x.1, y21.1]) HKN22.out HKA22.out 8 x.1.pos 0 ⟨#[]⟩ rfl rfl rfl rfl
      try simp only [hs21] at hV23
      have HVV23 := hid hV23; clear hV23
      go_wp2_with fail
      rw [HVV23.out]
      go_roundg m
      case measure => omega
      case rel => exact ⟨_, HL23, HX, HMA, HMC⟩
end Go.Proofs.Ytejciampbnfbhaa

namespace Go.Proofs.Ytejciampbnfbhaa
open Go.RowKit
theorem mul_m (N k : Nat) (hE : ExprOK N k) (hS : SquareOK N k) (w : World) (b : Nat) (s : ByteArray) (z : Sy.Env) (S : Sy.RS) (d : Nat) (h : Rd w b s z S (200 - k) d) (hm : Sy.mu S < N) :
  Calls Try.prog 95 #[.pointer (some ⟨b, 0, none⟩)] w fun en w' => NRes w b s z (Sy.mulA z N (Sy.exprA z N k) S) (200 - k) d en w' := by
 obtain ⟨p, hb, _⟩ := h.cells
 have H := hid h
 have HM := hid hm
 have hlt := h.lt
 have c2 := (hb 2 _ rfl).1
 clear h hb hm
 go_enter Try.func95, Try.ntmps95
 go_wp2_with fail
 obtain ⟨W0, hW0, HI⟩ := in1 H.out 35
 rw [hW0]
 have HW0 := hid hW0
 clear hW0
 have hz0 := HI.out.size
 have HT : Hid (Sy.mulA z N (Sy.exprA z N k) S = Sy.mulsA z N (Sy.exprA z N k) N (Sy.appA z N (Sy.exprA z N k) S).1 (Sy.appA z N (Sy.exprA z N k) S).2) := rfl
 have HMY : Hid (Sy.mu (Sy.appA z N (Sy.exprA z N k) S).2 < N) := Nat.lt_of_le_of_lt (Sy.mu_app z N (Sy.mu_expr z N k) S) HM.out
 refine (app_m N k hE hS W0 b s z S d HI.out.rd HM.out).mono ?_
 rintro en w1 ⟨a1, l1, c1, rfl, HKd1, HR1, HK1⟩
 generalize hy1 : Sy.appA z N (Sy.exprA z N k) S = y1 at *
 have HY1 := hid hy1
 clear hy1
 obtain ⟨W1, hW1, HV1, HRd1, HKp1, hs1, ht1⟩ := var_new HKd1.out HR1.out HK1.out 35
 have HRS1 := hid (HI.out.one.kp HKp1.out (by omega))
 have HKA1 := hid (HI.out.kp.trans HKp1.out)
 go_wp2_with fail
 try rw [hW1]
 clear hW1
 have HL : Hid (Lv w b w1.heap.size w.heap.size W0.heap.size s z y1 (200 - k) d W1) := ⟨⟨a1, l1, c1, HV1.out⟩, ⟨_, _, _, _, _, HRS1.out⟩, HRd1.out, HKA1.out⟩
 go_loopg [] N (fun n wr => ∃ x : Sy.Tr × Sy.RS, Hid (Lv w b w1.heap.size w.heap.size W0.heap.size s z x (200 - k) d wr) ∧ Hid (Sy.mulsA z N (Sy.exprA z N k) n x.1 x.2 = Sy.mulA z N (Sy.exprA z N k) S) ∧ Hid (Sy.mu x.2 < n) ∧ Hid (Sy.mu x.2 < N))
 case atStart => exact ⟨y1, HL, HT.out.symm, HMY.out, HMY.out⟩
 case round =>
  obtain ⟨x, HL, HE, HMX, HMX2⟩ := hrel
  obtain ⟨m, hm⟩ : ∃ m, gk = m + 1 := ⟨gk - 1, by have := HMX.out; omega⟩
  subst hm
  obtain ⟨a, l, c, HVA0⟩ := HL.out.var
  have HVA := hid HVA0
  clear HVA0
  obtain ⟨r0, r1, r2, r3, r4, HRSA0⟩ := HL.out.res
  have HRSA := hid HRSA0
  clear HRSA0
  have hAr := HVA.out.lt
  have hkz := HL.out.kp.size
  cases hl : Sy.isA Sy.s_star x.2 with
  | false =>
   have HX : Hid (Sy.mulA z N (Sy.exprA z N k) S = (x.1, x.2)) := by rw [Hid, ← HE.out, Sy.mulsA]; simp [hl]
   obtain ⟨⟨qA_0, qA_1, qA_2, qA_3, qA_4⟩, qA_5, qA_6, qA_7, qA_8, qA_9⟩ := blk5 HVA.out.cells
   go_wp2_with fail
   refine (has_no _ b s z x.2 (200 - k) d Sy.s_star HL.out.rd hl).mono ?_; rintro en w' ⟨rfl, rfl⟩; obtain ⟨⟨u0, u1, u2, u3, u4⟩, u5, u6, u7, u8, u9⟩ := blk5 HRSA.out
   go_wp2_with fail
   refine bodyPost_ret (v := .agg #[.int .i64 x.1.kind, .int .i64 x.1.pos, .string ⟨x.1.name.toArray⟩, .int .i64 x.1.num, .slice a l c]) (by simp [results, Try.results95, go_sem, u0, u1, u2, u3, u4]) rfl ?_; exact nres_fin (lo := W0.heap.size) x.1 x.2 (HVA.out.kids.free (Nat.le_refl _)) HL.out.rd HL.out.kp HX.out (by omega) (by omega) (by omega) _ _ _ _ rfl rfl rfl rfl _ _ _ _ _
  | true =>
   have HX : Hid (Sy.mulsA z N (Sy.exprA z N k) m (Sy.op2 Sy.s_star x.1 (Sy.appA z N (Sy.exprA z N k) (Sy.nextA z x.2)).1) (Sy.appA z N (Sy.exprA z N k) (Sy.nextA z x.2)).2 = Sy.mulA z N (Sy.exprA z N k) S) := by rw [Hid, ← HE.out, Sy.mulsA]; simp [hl]
   have HMA : Hid (Sy.mu (Sy.appA z N (Sy.exprA z N k) (Sy.nextA z x.2)).2 < m) := by have h1 := Sy.mu_app z N (Sy.mu_expr z N k) (Sy.nextA z x.2); have h3 := Sy.mu_is z hl; have h2 := HMX.out; simp only [Hid]; omega
   have HMB : Hid (Sy.mu (Sy.nextA z x.2) < N) := Nat.lt_trans (Sy.mu_is z hl) HMX2.out; have HMC : Hid (Sy.mu (Sy.appA z N (Sy.exprA z N k) (Sy.nextA z x.2)).2 < N) := Nat.lt_of_le_of_lt (Sy.mu_app z N (Sy.mu_expr z N k) (Sy.nextA z x.2)) HMB.out
   go_wp2_with fail
   refine (has_yes _ b s z x.2 (200 - k) d Sy.s_star HL.out.rd hl).mono ?_; rintro en w21 ⟨rfl, hr21, hk21⟩; have HR21 := hid hr21; have HK21 := hid hk21; clear hr21 hk21; have HVAx21 := hid (HVA.out.kp HK21.out (by omega) (by omega)); have HRS21 := hid (HRSA.out.kp HK21.out (by omega)); have HKA21 := hid (HL.out.kp.trans HK21.out); have ht21 := HK21.out.size
   go_wp2_with fail
   refine (app_m N k hE hS w21 b s z (Sy.nextA z x.2) d HR21.out HMB.out).mono ?_; rintro en w22 ⟨a22, l22, c22, rfl, HKd22, HR22, HK22⟩; generalize hy22 : Sy.appA z N (Sy.exprA z N k) (Sy.nextA z x.2) = y22 at *; have HY22 := hid hy22; clear hy22; obtain ⟨W22, hW22, HV22, HRd22, HKp22, hs22, ht22⟩ := var_new HKd22.out HR22.out HK22.out 35; have HVAx22 := hid (HVAx21.out.kp HKp22.out (by omega) (by omega)); have HRS22 := hid (HRS21.out.kp HKp22.out (by omega)); have HKA22 := hid (HKA21.out.trans HKp22.out); obtain ⟨⟨qA_0, qA_1, qA_2, qA_3, qA_4⟩, qA_5, qA_6, qA_7, qA_8, qA_9⟩ := blk5 HVAx22.out.cells; obtain ⟨⟨q22_0, q22_1, q22_2, q22_3, q22_4⟩, q22_5, q22_6, q22_7, q22_8, q22_9⟩ := blk5 HV22.out.cells
   go_wp2_with fail
   try rw [hW22]
   clear hW22; refine (two_m _ (Fr W0.heap.size w1.heap.size) x.1 y22.1 Sy.s_star _ _ _ _ _ _ (fun g hg => ⟨by omega, by omega⟩) HVAx22.out.kids (HV22.out.kids.weak (fun g hg _ => ⟨by have := hg.1; omega, by have := hg.1; omega⟩))).mono ?_; rintro en w23 ⟨gg, rfl, HKT23, HBT23⟩; have HVAx23 := hid (HVAx22.out.past HBT23.out); have HV22x23 := hid (HV22.out.past HBT23.out); have HRS23 := hid (HRS22.out.past HBT23.out); have HKA23 := hid (HKA22.out.below HBT23.out); have HRT23 := hid (HRd22.out.below HBT23.out HRd22.out.lt); have ht23 := HBT23.out.size; have HAC24 := hid HVAx23.out.cells; obtain ⟨⟨v0, v1, v2, v3, v4⟩, v5, v6, v7, v8, v9⟩ := blk5 HAC24.out; obtain ⟨V24, hV24, HL24⟩ := lv_put (w := w) (lo := W0.heap.size) HAC24.out HRS23.out (by omega) (by omega) (by omega) HRT23.out (Sy.op2 Sy.s_star x.1 y22.1) HKT23.out HKA23.out 18 x.1.pos 0 ⟨Sy.s_star.toArray⟩ rfl rfl rfl rfl
   try simp only [hs22] at hV24
   have HVV24 := hid hV24; clear hV24
   go_wp2_with fail
   rw [HVV24.out]
   go_roundg m
   case measure => omega
   case rel => exact ⟨_, HL24, HX, HMA, HMC⟩
theorem sum_m (N k : Nat) (hE : ExprOK N k) (hS : SquareOK N k) (w : World) (b : Nat) (s : ByteArray) (z : Sy.Env) (S : Sy.RS) (d : Nat) (h : Rd w b s z S (200 - k) d) (hm : Sy.mu S < N) :
  Calls Try.prog 92 #[.pointer (some ⟨b, 0, none⟩)] w fun en w' => NRes w b s z (Sy.sumA z N (Sy.exprA z N k) S) (200 - k) d en w' := by
 obtain ⟨p, hb, _⟩ := h.cells
 have H := hid h
 have HM := hid hm
 have hlt := h.lt
 have c2 := (hb 2 _ rfl).1
 clear h hb hm
 go_enter Try.func92, Try.ntmps92
 go_wp2_with fail
 obtain ⟨W0, hW0, HI⟩ := in1 H.out 35
 rw [hW0]
 have HW0 := hid hW0
 clear hW0
 have hz0 := HI.out.size
 have HT : Hid (Sy.sumA z N (Sy.exprA z N k) S = Sy.sumsA z N (Sy.exprA z N k) N (Sy.mulA z N (Sy.exprA z N k) S).1 (Sy.mulA z N (Sy.exprA z N k) S).2) := rfl
 have HMY : Hid (Sy.mu (Sy.mulA z N (Sy.exprA z N k) S).2 < N) := Nat.lt_of_le_of_lt (Sy.mu_mul z N (Sy.mu_expr z N k) S) HM.out
 refine (mul_m N k hE hS W0 b s z S d HI.out.rd HM.out).mono ?_
 rintro en w1 ⟨a1, l1, c1, rfl, HKd1, HR1, HK1⟩
 generalize hy1 : Sy.mulA z N (Sy.exprA z N k) S = y1 at *
 have HY1 := hid hy1
 clear hy1
 obtain ⟨W1, hW1, HV1, HRd1, HKp1, hs1, ht1⟩ := var_new HKd1.out HR1.out HK1.out 35
 have HRS1 := hid (HI.out.one.kp HKp1.out (by omega))
 have HKA1 := hid (HI.out.kp.trans HKp1.out)
 go_wp2_with fail
 try rw [hW1]
 clear hW1
 have HL : Hid (Lv w b w1.heap.size w.heap.size W0.heap.size s z y1 (200 - k) d W1) := ⟨⟨a1, l1, c1, HV1.out⟩, ⟨_, _, _, _, _, HRS1.out⟩, HRd1.out, HKA1.out⟩
 go_loopg [] N (fun n wr => ∃ x : Sy.Tr × Sy.RS, Hid (Lv w b w1.heap.size w.heap.size W0.heap.size s z x (200 - k) d wr) ∧ Hid (Sy.sumsA z N (Sy.exprA z N k) n x.1 x.2 = Sy.sumA z N (Sy.exprA z N k) S) ∧ Hid (Sy.mu x.2 < n) ∧ Hid (Sy.mu x.2 < N))
 case atStart => exact ⟨y1, HL, HT.out.symm, HMY.out, HMY.out⟩
 case round =>
  obtain ⟨x, HL, HE, HMX, HMX2⟩ := hrel
  obtain ⟨m, hm⟩ : ∃ m, gk = m + 1 := ⟨gk - 1, by have := HMX.out; omega⟩
  subst hm
  obtain ⟨a, l, c, HVA0⟩ := HL.out.var
  have HVA := hid HVA0
  clear HVA0
  obtain ⟨r0, r1, r2, r3, r4, HRSA0⟩ := HL.out.res
  have HRSA := hid HRSA0
  clear HRSA0
  have hAr := HVA.out.lt
  have hkz := HL.out.kp.size
  cases hl : Sy.isA Sy.s_plus x.2 with
  | true =>
   have HX : Hid (Sy.sumsA z N (Sy.exprA z N k) m (Sy.op2 x.2.t.text x.1 (Sy.mulA z N (Sy.exprA z N k) (Sy.nextA z x.2)).1) (Sy.mulA z N (Sy.exprA z N k) (Sy.nextA z x.2)).2 = Sy.sumA z N (Sy.exprA z N k) S) := by rw [Hid, ← HE.out, Sy.sumsA]; simp [hl]
   have HMA : Hid (Sy.mu (Sy.mulA z N (Sy.exprA z N k) (Sy.nextA z x.2)).2 < m) := by have h1 := Sy.mu_mul z N (Sy.mu_expr z N k) (Sy.nextA z x.2); have h3 := Sy.mu_is z hl; have h2 := HMX.out; simp only [Hid]; omega
   have HMB : Hid (Sy.mu (Sy.nextA z x.2) < N) := Nat.lt_trans (Sy.mu_is z hl) HMX2.out; have HMC : Hid (Sy.mu (Sy.mulA z N (Sy.exprA z N k) (Sy.nextA z x.2)).2 < N) := Nat.lt_of_le_of_lt (Sy.mu_mul z N (Sy.mu_expr z N k) (Sy.nextA z x.2)) HMB.out; obtain ⟨p21, hb21, _⟩ := HL.out.rd.cells; have c21_3 := (hb21 3 _ rfl).1; clear hb21
   go_wp2_with fail
   refine (has_yes _ b s z x.2 (200 - k) d Sy.s_plus HL.out.rd hl).mono ?_; rintro en w22 ⟨rfl, hr22, hk22⟩; have HR22 := hid hr22; have HK22 := hid hk22; clear hr22 hk22; have HVAx22 := hid (HVA.out.kp HK22.out (by omega) (by omega)); have HRS22 := hid (HRSA.out.kp HK22.out (by omega)); have HKA22 := hid (HL.out.kp.trans HK22.out); have ht22 := HK22.out.size
   go_wp2_with fail
   refine (mul_m N k hE hS w22 b s z (Sy.nextA z x.2) d HR22.out HMB.out).mono ?_; rintro en w23 ⟨a23, l23, c23, rfl, HKd23, HR23, HK23⟩; generalize hy23 : Sy.mulA z N (Sy.exprA z N k) (Sy.nextA z x.2) = y23 at *; have HY23 := hid hy23; clear hy23; obtain ⟨W23, hW23, HV23, HRd23, HKp23, hs23, ht23⟩ := var_new HKd23.out HR23.out HK23.out 35; have HVAx23 := hid (HVAx22.out.kp HKp23.out (by omega) (by omega)); have HRS23 := hid (HRS22.out.kp HKp23.out (by omega)); have HKA23 := hid (HKA22.out.trans HKp23.out); obtain ⟨⟨qA_0, qA_1, qA_2, qA_3, qA_4⟩, qA_5, qA_6, qA_7, qA_8, qA_9⟩ := blk5 HVAx23.out.cells; obtain ⟨⟨q23_0, q23_1, q23_2, q23_3, q23_4⟩, q23_5, q23_6, q23_7, q23_8, q23_9⟩ := blk5 HV23.out.cells
   go_wp2_with fail
   try rw [hW23]
   clear hW23; refine (two_m _ (Fr W0.heap.size w1.heap.size) x.1 y23.1 x.2.t.text _ _ _ _ _ _ (fun g hg => ⟨by omega, by omega⟩) HVAx23.out.kids (HV23.out.kids.weak (fun g hg _ => ⟨by have := hg.1; omega, by have := hg.1; omega⟩))).mono ?_; rintro en w24 ⟨gg, rfl, HKT24, HBT24⟩; have HVAx24 := hid (HVAx23.out.past HBT24.out); have HV23x24 := hid (HV23.out.past HBT24.out); have HRS24 := hid (HRS23.out.past HBT24.out); have HKA24 := hid (HKA23.out.below HBT24.out); have HRT24 := hid (HRd23.out.below HBT24.out HRd23.out.lt); have ht24 := HBT24.out.size; have HAC25 := hid HVAx24.out.cells; obtain ⟨⟨v0, v1, v2, v3, v4⟩, v5, v6, v7, v8, v9⟩ := blk5 HAC25.out; obtain ⟨V25, hV25, HL25⟩ := lv_put (w := w) (lo := W0.heap.size) HAC25.out HRS24.out (by omega) (by omega) (by omega) HRT24.out (Sy.op2 x.2.t.text x.1 y23.1) HKT24.out HKA24.out 18 x.1.pos 0 ⟨x.2.t.text.toArray⟩ rfl rfl rfl rfl
   try simp only [hs23] at hV25
   have HVV25 := hid hV25; clear hV25
   go_wp2_with fail
   rw [HVV25.out]
   go_roundg m
   case measure => omega
   case rel => exact ⟨_, HL25, HX, HMA, HMC⟩
  | false =>
   cases hl2 : Sy.isA Sy.s_minus x.2 with
   | true =>
    have HX : Hid (Sy.sumsA z N (Sy.exprA z N k) m (Sy.op2 x.2.t.text x.1 (Sy.mulA z N (Sy.exprA z N k) (Sy.nextA z x.2)).1) (Sy.mulA z N (Sy.exprA z N k) (Sy.nextA z x.2)).2 = Sy.sumA z N (Sy.exprA z N k) S) := by rw [Hid, ← HE.out, Sy.sumsA]; simp [hl, hl2]
    have HMA : Hid (Sy.mu (Sy.mulA z N (Sy.exprA z N k) (Sy.nextA z x.2)).2 < m) := by have h1 := Sy.mu_mul z N (Sy.mu_expr z N k) (Sy.nextA z x.2); have h3 := Sy.mu_is z hl2; have h2 := HMX.out; simp only [Hid]; omega
    have HMB : Hid (Sy.mu (Sy.nextA z x.2) < N) := Nat.lt_trans (Sy.mu_is z hl2) HMX2.out; have HMC : Hid (Sy.mu (Sy.mulA z N (Sy.exprA z N k) (Sy.nextA z x.2)).2 < N) := Nat.lt_of_le_of_lt (Sy.mu_mul z N (Sy.mu_expr z N k) (Sy.nextA z x.2)) HMB.out; obtain ⟨p21, hb21, _⟩ := HL.out.rd.cells; have c21_3 := (hb21 3 _ rfl).1; clear hb21
    go_wp2_with fail
    refine (has_no _ b s z x.2 (200 - k) d Sy.s_plus HL.out.rd hl).mono ?_; rintro en w' ⟨rfl, rfl⟩
    go_wp2_with fail
    refine (has_yes _ b s z x.2 (200 - k) d Sy.s_minus HL.out.rd hl2).mono ?_; rintro en w22 ⟨rfl, hr22, hk22⟩; have HR22 := hid hr22; have HK22 := hid hk22; clear hr22 hk22; have HVAx22 := hid (HVA.out.kp HK22.out (by omega) (by omega)); have HRS22 := hid (HRSA.out.kp HK22.out (by omega)); have HKA22 := hid (HL.out.kp.trans HK22.out); have ht22 := HK22.out.size
    go_wp2_with fail
    refine (mul_m N k hE hS w22 b s z (Sy.nextA z x.2) d HR22.out HMB.out).mono ?_; rintro en w23 ⟨a23, l23, c23, rfl, HKd23, HR23, HK23⟩; generalize hy23 : Sy.mulA z N (Sy.exprA z N k) (Sy.nextA z x.2) = y23 at *; have HY23 := hid hy23; clear hy23; obtain ⟨W23, hW23, HV23, HRd23, HKp23, hs23, ht23⟩ := var_new HKd23.out HR23.out HK23.out 35; have HVAx23 := hid (HVAx22.out.kp HKp23.out (by omega) (by omega)); have HRS23 := hid (HRS22.out.kp HKp23.out (by omega)); have HKA23 := hid (HKA22.out.trans HKp23.out); obtain ⟨⟨qA_0, qA_1, qA_2, qA_3, qA_4⟩, qA_5, qA_6, qA_7, qA_8, qA_9⟩ := blk5 HVAx23.out.cells; obtain ⟨⟨q23_0, q23_1, q23_2, q23_3, q23_4⟩, q23_5, q23_6, q23_7, q23_8, q23_9⟩ := blk5 HV23.out.cells
    go_wp2_with fail
    try rw [hW23]
    clear hW23; refine (two_m _ (Fr W0.heap.size w1.heap.size) x.1 y23.1 x.2.t.text _ _ _ _ _ _ (fun g hg => ⟨by omega, by omega⟩) HVAx23.out.kids (HV23.out.kids.weak (fun g hg _ => ⟨by have := hg.1; omega, by have := hg.1; omega⟩))).mono ?_; rintro en w24 ⟨gg, rfl, HKT24, HBT24⟩; have HVAx24 := hid (HVAx23.out.past HBT24.out); have HV23x24 := hid (HV23.out.past HBT24.out); have HRS24 := hid (HRS23.out.past HBT24.out); have HKA24 := hid (HKA23.out.below HBT24.out); have HRT24 := hid (HRd23.out.below HBT24.out HRd23.out.lt); have ht24 := HBT24.out.size; have HAC25 := hid HVAx24.out.cells; obtain ⟨⟨v0, v1, v2, v3, v4⟩, v5, v6, v7, v8, v9⟩ := blk5 HAC25.out; obtain ⟨V25, hV25, HL25⟩ := lv_put (w := w) (lo := W0.heap.size) HAC25.out HRS24.out (by omega) (by omega) (by omega) HRT24.out (Sy.op2 x.2.t.text x.1 y23.1) HKT24.out HKA24.out 18 x.1.pos 0 ⟨x.2.t.text.toArray⟩ rfl rfl rfl rfl
    try simp only [hs23] at hV25
    have HVV25 := hid hV25; clear hV25
    go_wp2_with fail
    rw [HVV25.out]
    go_roundg m
    case measure => omega
    case rel => exact ⟨_, HL25, HX, HMA, HMC⟩
   | false =>
    have HX : Hid (Sy.sumA z N (Sy.exprA z N k) S = (x.1, x.2)) := by rw [Hid, ← HE.out, Sy.sumsA]; simp [hl, hl2]
    obtain ⟨⟨qA_0, qA_1, qA_2, qA_3, qA_4⟩, qA_5, qA_6, qA_7, qA_8, qA_9⟩ := blk5 HVA.out.cells; obtain ⟨p21, hb21, _⟩ := HL.out.rd.cells; have c21_3 := (hb21 3 _ rfl).1; clear hb21
    go_wp2_with fail
    refine (has_no _ b s z x.2 (200 - k) d Sy.s_plus HL.out.rd hl).mono ?_; rintro en w' ⟨rfl, rfl⟩
    go_wp2_with fail
    refine (has_no _ b s z x.2 (200 - k) d Sy.s_minus HL.out.rd hl2).mono ?_; rintro en w' ⟨rfl, rfl⟩; obtain ⟨⟨u0, u1, u2, u3, u4⟩, u5, u6, u7, u8, u9⟩ := blk5 HRSA.out
    go_wp2_with fail
    refine bodyPost_ret (v := .agg #[.int .i64 x.1.kind, .int .i64 x.1.pos, .string ⟨x.1.name.toArray⟩, .int .i64 x.1.num, .slice a l c]) (by simp [results, Try.results92, go_sem, u0, u1, u2, u3, u4]) rfl ?_; exact nres_fin (lo := W0.heap.size) x.1 x.2 (HVA.out.kids.free (Nat.le_refl _)) HL.out.rd HL.out.kp HX.out (by omega) (by omega) (by omega) _ _ _ _ rfl rfl rfl rfl _ _ _ _ _
end Go.Proofs.Ytejciampbnfbhaa

namespace Go.Proofs.Ytejciampbnfbhaa
open Go.RowKit
theorem cons_m (N k : Nat) (hE : ExprOK N k) (hS : SquareOK N k) : ∀ (n : Nat) (w : World) (b : Nat) (s : ByteArray) (z : Sy.Env) (S : Sy.RS) (d : Nat), Rd w b s z S (200 - k) d → Sy.mu S < N → Sy.mu S < n →
  Calls Try.prog 88 #[.pointer (some ⟨b, 0, none⟩)] w fun en w' => NRes w b s z (Sy.consA z N (Sy.exprA z N k) n S) (200 - k) d en w' := by
 intro n
 induction n with
 | zero => intro w b s z S d _ _ h; omega
 | succ n ih =>
  intro w b s z S d h hm hn
  have IH := hid ih
  have H := hid h
  have HM := hid hm
  have HN := hid hn
  have hlt := h.lt
  have HMU1 := hid (Sy.mu_sum z N (Sy.mu_expr z N k) S)
  clear h hm hn ih
  go_enter Try.func88, Try.ntmps88
  go_wp2_with fail
  obtain ⟨W0, hW0, HI⟩ := in1 H.out 35
  rw [hW0]
  have HW0 := hid hW0
  clear hW0
  have hz0 := HI.out.size
  refine (sum_m N k hE hS W0 b s z S d HI.out.rd HM.out).mono ?_
  rintro en w1 ⟨a1, l1, c1, rfl, HKd1, HR1, HK1⟩
  generalize hy1 : Sy.sumA z N (Sy.exprA z N k) S = y1 at *
  have HY1 := hid hy1
  clear hy1
  obtain ⟨W1, hW1, HV1, HRd1, HKp1, hs1, ht1⟩ := var_new HKd1.out HR1.out HK1.out 35
  have HRS1 := hid (HI.out.one.kp HKp1.out (by omega))
  have HKA1 := hid (HI.out.kp.trans HKp1.out)
  cases h1 : Sy.isA Sy.s_cons y1.2 with
  | false =>
   have HX : Hid (Sy.consA z N (Sy.exprA z N k) (n + 1) S = (y1.1, y1.2)) := by rw [Hid, Sy.consA, HY1.out]; simp [h1]
   go_wp2_with fail
   try rw [hW1]
   clear hW1; refine (has_no _ b s z y1.2 (200 - k) d Sy.s_cons HRd1.out h1).mono ?_; rintro en w' ⟨rfl, rfl⟩; obtain ⟨⟨q1_0, q1_1, q1_2, q1_3, q1_4⟩, q1_5, q1_6, q1_7, q1_8, q1_9⟩ := blk5 HV1.out.cells; obtain ⟨⟨u0, u1, u2, u3, u4⟩, u5, u6, u7, u8, u9⟩ := blk5 HRS1.out
   go_wp2_with fail
   refine bodyPost_ret (v := .agg #[.int .i64 y1.1.kind, .int .i64 y1.1.pos, .string ⟨y1.1.name.toArray⟩, .int .i64 y1.1.num, .slice a1 l1 c1]) (by simp [results, Try.results88, go_sem, u0, u1, u2, u3, u4]) rfl ?_; exact nres_fin (lo := W0.heap.size) y1.1 y1.2 (HV1.out.kids.free (by omega)) HRd1.out HKA1.out HX.out (by omega) (by omega) (by omega) _ _ _ _ rfl rfl rfl rfl _ _ _ _ _
  | true =>
   have HX : Hid (Sy.consA z N (Sy.exprA z N k) (n + 1) S = (Sy.nd 16 y1.1.pos [y1.1, (Sy.consA z N (Sy.exprA z N k) n (Sy.nextA z y1.2)).1], (Sy.consA z N (Sy.exprA z N k) n (Sy.nextA z y1.2)).2)) := by rw [Hid, Sy.consA, HY1.out]; simp [h1]
   have HMU := hid (Sy.mu_is z h1); have HMA : Hid (Sy.mu (Sy.nextA z y1.2) < N) := by have h1 := HMU.out; have h2 := HMU1.out; have h3 := HM.out; simp only [Hid]; omega
   have HMB : Hid (Sy.mu (Sy.nextA z y1.2) < n) := by have h1 := HMU.out; have h2 := HMU1.out; have h3 := HN.out; simp only [Hid]; omega
   go_wp2_with fail
   try rw [hW1]
   clear hW1; refine (has_yes _ b s z y1.2 (200 - k) d Sy.s_cons HRd1.out h1).mono ?_; rintro en w2 ⟨rfl, hr2, hk2⟩; have HR2 := hid hr2; have HK2 := hid hk2; clear hr2 hk2; have HV1x2 := hid (HV1.out.kp HK2.out (by omega) (by omega)); have HRS2 := hid (HRS1.out.kp HK2.out (by omega)); have HKA2 := hid (HKA1.out.trans HK2.out); have ht2 := HK2.out.size
   go_wp2_with fail
   refine (IH.out w2 b s z (Sy.nextA z y1.2) d HR2.out HMA.out HMB.out).mono ?_; rintro en w3 ⟨a3, l3, c3, rfl, HKd3, HR3, HK3⟩; generalize hy3 : Sy.consA z N (Sy.exprA z N k) n (Sy.nextA z y1.2) = y3 at *; have HY3 := hid hy3; clear hy3; obtain ⟨W3, hW3, HV3, HRd3, HKp3, hs3, ht3⟩ := var_new HKd3.out HR3.out HK3.out 35; have HV1x3 := hid (HV1x2.out.kp HKp3.out (by omega) (by omega)); have HRS3 := hid (HRS2.out.kp HKp3.out (by omega)); have HKA3 := hid (HKA2.out.trans HKp3.out); obtain ⟨⟨q1_0, q1_1, q1_2, q1_3, q1_4⟩, q1_5, q1_6, q1_7, q1_8, q1_9⟩ := blk5 HV1x3.out.cells; obtain ⟨⟨q3_0, q3_1, q3_2, q3_3, q3_4⟩, q3_5, q3_6, q3_7, q3_8, q3_9⟩ := blk5 HV3.out.cells
   go_wp2_with fail
   try rw [hW3]
   clear hW3; refine (node_m _ _ _ _ _ _).mono ?_; rintro en w4 ⟨rfl, HB4⟩; have HKN4 := hid (kids_new (F := (fun g => W0.heap.size ≤ g)) [(y1.1, .slice a1 l1 c1), (y3.1, .slice a3 l3 c3)] (by simp) (by show W0.heap.size ≤ _; omega) (by intro p hp; simp only [List.mem_cons, or_false, List.not_mem_nil] at hp; rcases hp with rfl | rfl <;> first | exact HV1x3.out.kids.free (by omega) | exact HV3.out.kids.free (by omega)) _ rfl 2 rfl HB4.out); have HV1x4 := hid (HV1x3.out.past (Below.trans ((Below.refl _ _).alloc (Nat.le_refl _) _) (HB4.out.mono (by simp)))); have HV3x4 := hid (HV3.out.past (Below.trans ((Below.refl _ _).alloc (Nat.le_refl _) _) (HB4.out.mono (by simp)))); have HRS4 := hid (HRS3.out.past (Below.trans ((Below.refl _ _).alloc (Nat.le_refl _) _) (HB4.out.mono (by simp)))); have HKA4 := hid (HKA3.out.below (Below.trans ((Below.refl _ _).alloc (Nat.le_refl _) _) (HB4.out.mono (by simp)))); have HR4 := hid ((HRd3.out.alloc _).below HB4.out ((HRd3.out.alloc _).lt)); obtain ⟨⟨u0, u1, u2, u3, u4⟩, u5, u6, u7, u8, u9⟩ := blk5 HRS4.out
   go_wp2_with fail
   refine bodyPost_ret (v := .agg #[.int .i64 16, .int .i64 y1.1.pos, .string ⟨#[]⟩, .int .i64 0, .slice (some ⟨W3.heap.size, 0, none⟩) 2 2]) (by simp [results, Try.results88, go_sem, u0, u1, u2, u3, u4]) rfl ?_; exact nres_fin (lo := W0.heap.size) (Sy.nd 16 y1.1.pos [y1.1, y3.1]) y3.2 HKN4.out HR4.out HKA4.out HX.out (by omega) (by omega) (by omega) _ _ _ _ rfl rfl rfl rfl _ _ _ _ _
theorem comp_m (N k : Nat) (hE : ExprOK N k) (hS : SquareOK N k) (w : World) (b : Nat) (s : ByteArray) (z : Sy.Env) (S : Sy.RS) (d : Nat) (h : Rd w b s z S (200 - k) d) (hm : Sy.mu S < N) :
  Calls Try.prog 76 #[.pointer (some ⟨b, 0, none⟩)] w fun en w' => NRes w b s z (Sy.compA z N (Sy.exprA z N k) S) (200 - k) d en w' := by
 have H := hid h
 have HM := hid hm
 have hlt := h.lt
 have HMU1 := hid (Sy.mu_cons z N (Sy.mu_expr z N k) N S)
 clear h hm
 go_enter Try.func76, Try.ntmps76
 go_wp2_with fail
 obtain ⟨W0, hW0, HI⟩ := in1 H.out 35
 rw [hW0]
 have HW0 := hid hW0
 clear hW0
 have hz0 := HI.out.size
 refine (cons_m N k hE hS N W0 b s z S d HI.out.rd HM.out HM.out).mono ?_
 rintro en w1 ⟨a1, l1, c1, rfl, HKd1, HR1, HK1⟩
 generalize hy1 : Sy.consA z N (Sy.exprA z N k) N S = y1 at *
 have HY1 := hid hy1
 clear hy1
 obtain ⟨W1, hW1, HV1, HRd1, HKp1, hs1, ht1⟩ := var_new HKd1.out HR1.out HK1.out 35
 have HRS1 := hid (HI.out.one.kp HKp1.out (by omega))
 have HKA1 := hid (HI.out.kp.trans HKp1.out)
 go_wp2_with fail
 try rw [hW1]
 clear hW1
 have HSB := hid (Blk.new W1 [.string ⟨#[61, 61]⟩, .string ⟨#[60]⟩] 9)
 have HBA := hid (Below.alloc (Below.refl W1.heap.size W1) (Nat.le_refl _) (.cells #[.string ⟨#[61, 61]⟩, .string ⟨#[60]⟩] 9))
 have HR2 := hid (HRd1.out.alloc (.cells #[.string ⟨#[61, 61]⟩, .string ⟨#[60]⟩] 9))
 have hs2 : (W1.alloc (.cells #[.string ⟨#[61, 61]⟩, .string ⟨#[60]⟩] 9)).heap.size = W1.heap.size + 1 := by simp
 have HV1x1 := hid (HV1.out.past HBA.out)
 have HRS1 := hid (HRS1.out.past HBA.out)
 have HKA1 := hid (HKA1.out.below HBA.out)
 rw [hs1] at HSB
 generalize hW2 : W1.alloc (.cells #[.string ⟨#[61, 61]⟩, .string ⟨#[60]⟩] 9) = W2 at *
 clear hW2
 obtain ⟨g0, g1, g2, g3⟩ := blk2 HSB.out
 refine wp_loop_rounds 3 ?_
 rw [rounds_succ]
 cases h1 : Sy.isA Sy.s_eqeq y1.2 with
 | true =>
  have HX : Hid (Sy.compA z N (Sy.exprA z N k) S = (Sy.op2 Sy.s_eqeq y1.1 (Sy.consA z N (Sy.exprA z N k) N (Sy.nextA z y1.2)).1, (Sy.consA z N (Sy.exprA z N k) N (Sy.nextA z y1.2)).2)) := by simp [Hid, Sy.compA, HY1.out, h1]
  have HMA : Hid (Sy.mu (Sy.nextA z y1.2) < N) := by have h3 := Sy.mu_is z h1; have h4 := HMU1.out; have h5 := HM.out; simp only [Hid]; omega
  go_wp2_with fail
  refine (has_yes _ b s z y1.2 (200 - k) d Sy.s_eqeq HR2.out h1).mono ?_
  rintro en w2 ⟨rfl, hr2, hk2⟩
  have HR2 := hid hr2
  have HK2 := hid hk2
  clear hr2 hk2
  have HV1x2 := hid (HV1x1.out.kp HK2.out (by omega) (by omega))
  have HT0x2 := hid (HSB.out.kp HK2.out (by omega))
  have HRS2 := hid (HRS1.out.kp HK2.out (by omega))
  have HKA2 := hid (HKA1.out.trans HK2.out)
  have ht2 := HK2.out.size
  go_wp2_with fail
  refine (cons_m N k hE hS N w2 b s z (Sy.nextA z y1.2) d HR2.out HMA.out HMA.out).mono ?_
  rintro en w3 ⟨a3, l3, c3, rfl, HKd3, HR3, HK3⟩
  generalize hy3 : Sy.consA z N (Sy.exprA z N k) N (Sy.nextA z y1.2) = y3 at *
  have HY3 := hid hy3
  clear hy3
  obtain ⟨W3, hW3, HV3, HRd3, HKp3, hs3, ht3⟩ := var_new HKd3.out HR3.out HK3.out 35
  have HV1x3 := hid (HV1x2.out.kp HKp3.out (by omega) (by omega))
  have HT0x3 := hid (HT0x2.out.kp HKp3.out (by omega))
  have HRS3 := hid (HRS2.out.kp HKp3.out (by omega))
  have HKA3 := hid (HKA2.out.trans HKp3.out)
  obtain ⟨⟨q1_0, q1_1, q1_2, q1_3, q1_4⟩, q1_5, q1_6, q1_7, q1_8, q1_9⟩ := blk5 HV1x3.out.cells
  obtain ⟨⟨q3_0, q3_1, q3_2, q3_3, q3_4⟩, q3_5, q3_6, q3_7, q3_8, q3_9⟩ := blk5 HV3.out.cells
  go_wp2_with fail
  try rw [hW3]
  clear hW3
  refine (two_m _ (fun g => W0.heap.size ≤ g) y1.1 y3.1 Sy.s_eqeq _ _ _ _ _ _ (fun g hg => by omega) (HV1x3.out.kids.free (by omega)) (HV3.out.kids.free (by omega))).mono ?_
  rintro en w4 ⟨gg, rfl, HKT4, HBT4⟩
  have HV1x4 := hid (HV1x3.out.past HBT4.out)
  have HV3x4 := hid (HV3.out.past HBT4.out)
  have HT0x4 := hid (HT0x3.out.past HBT4.out)
  have HRS4 := hid (HRS3.out.past HBT4.out)
  have HKA4 := hid (HKA3.out.below HBT4.out)
  have HRT4 := hid (HRd3.out.below HBT4.out HRd3.out.lt)
  have ht4 := HBT4.out.size
  obtain ⟨⟨u0, u1, u2, u3, u4⟩, u5, u6, u7, u8, u9⟩ := blk5 HRS4.out
  go_wp2_with fail
  refine bodyPost_ret (v := .agg #[.int .i64 18, .int .i64 y1.1.pos, .string ⟨Sy.s_eqeq.toArray⟩, .int .i64 0, .slice (some ⟨gg, 0, none⟩) 2 2]) (by simp [results, Try.results76, go_sem, u0, u1, u2, u3, u4]) rfl ?_
  exact nres_fin (lo := W0.heap.size) (Sy.op2 Sy.s_eqeq y1.1 y3.1) y3.2 HKT4.out HRT4.out HKA4.out HX.out (by omega) (by omega) (by omega) _ _ _ _ rfl rfl rfl rfl _ _ _ _ _
 | false =>
  cases h2 : Sy.isA Sy.s_lt y1.2 with
  | true =>
   have HX : Hid (Sy.compA z N (Sy.exprA z N k) S = (Sy.op2 Sy.s_lt y1.1 (Sy.consA z N (Sy.exprA z N k) N (Sy.nextA z y1.2)).1, (Sy.consA z N (Sy.exprA z N k) N (Sy.nextA z y1.2)).2)) := by simp [Hid, Sy.compA, HY1.out, h1, h2]
   have HMA : Hid (Sy.mu (Sy.nextA z y1.2) < N) := by have h3 := Sy.mu_is z h2; have h4 := HMU1.out; have h5 := HM.out; simp only [Hid]; omega
   go_wp2_with fail
   refine (has_no _ b s z y1.2 (200 - k) d Sy.s_eqeq HR2.out h1).mono ?_; rintro en w' ⟨rfl, rfl⟩
   go_wp2_with fail
   rw [rounds_succ]
   go_wp2_with fail
   refine (has_yes _ b s z y1.2 (200 - k) d Sy.s_lt HR2.out h2).mono ?_; rintro en w2 ⟨rfl, hr2, hk2⟩; have HR2 := hid hr2; have HK2 := hid hk2; clear hr2 hk2; have HV1x2 := hid (HV1x1.out.kp HK2.out (by omega) (by omega)); have HT0x2 := hid (HSB.out.kp HK2.out (by omega)); have HRS2 := hid (HRS1.out.kp HK2.out (by omega)); have HKA2 := hid (HKA1.out.trans HK2.out); have ht2 := HK2.out.size
   go_wp2_with fail
   refine (cons_m N k hE hS N w2 b s z (Sy.nextA z y1.2) d HR2.out HMA.out HMA.out).mono ?_; rintro en w3 ⟨a3, l3, c3, rfl, HKd3, HR3, HK3⟩; generalize hy3 : Sy.consA z N (Sy.exprA z N k) N (Sy.nextA z y1.2) = y3 at *; have HY3 := hid hy3; clear hy3; obtain ⟨W3, hW3, HV3, HRd3, HKp3, hs3, ht3⟩ := var_new HKd3.out HR3.out HK3.out 35; have HV1x3 := hid (HV1x2.out.kp HKp3.out (by omega) (by omega)); have HT0x3 := hid (HT0x2.out.kp HKp3.out (by omega)); have HRS3 := hid (HRS2.out.kp HKp3.out (by omega)); have HKA3 := hid (HKA2.out.trans HKp3.out); obtain ⟨⟨q1_0, q1_1, q1_2, q1_3, q1_4⟩, q1_5, q1_6, q1_7, q1_8, q1_9⟩ := blk5 HV1x3.out.cells; obtain ⟨⟨q3_0, q3_1, q3_2, q3_3, q3_4⟩, q3_5, q3_6, q3_7, q3_8, q3_9⟩ := blk5 HV3.out.cells
   go_wp2_with fail
   try rw [hW3]
   clear hW3; refine (two_m _ (fun g => W0.heap.size ≤ g) y1.1 y3.1 Sy.s_lt _ _ _ _ _ _ (fun g hg => by omega) (HV1x3.out.kids.free (by omega)) (HV3.out.kids.free (by omega))).mono ?_; rintro en w4 ⟨gg, rfl, HKT4, HBT4⟩; have HV1x4 := hid (HV1x3.out.past HBT4.out); have HV3x4 := hid (HV3.out.past HBT4.out); have HT0x4 := hid (HT0x3.out.past HBT4.out); have HRS4 := hid (HRS3.out.past HBT4.out); have HKA4 := hid (HKA3.out.below HBT4.out); have HRT4 := hid (HRd3.out.below HBT4.out HRd3.out.lt); have ht4 := HBT4.out.size; obtain ⟨⟨u0, u1, u2, u3, u4⟩, u5, u6, u7, u8, u9⟩ := blk5 HRS4.out
   go_wp2_with fail
   refine bodyPost_ret (v := .agg #[.int .i64 18, .int .i64 y1.1.pos, .string ⟨Sy.s_lt.toArray⟩, .int .i64 0, .slice (some ⟨gg, 0, none⟩) 2 2]) (by simp [results, Try.results76, go_sem, u0, u1, u2, u3, u4]) rfl ?_; exact nres_fin (lo := W0.heap.size) (Sy.op2 Sy.s_lt y1.1 y3.1) y3.2 HKT4.out HRT4.out HKA4.out HX.out (by omega) (by omega) (by omega) _ _ _ _ rfl rfl rfl rfl _ _ _ _ _
  | false =>
   have HX : Hid (Sy.compA z N (Sy.exprA z N k) S = (y1.1, y1.2)) := by simp [Hid, Sy.compA, HY1.out, h1, h2]
   obtain ⟨⟨q1_0, q1_1, q1_2, q1_3, q1_4⟩, q1_5, q1_6, q1_7, q1_8, q1_9⟩ := blk5 HV1x1.out.cells
   go_wp2_with fail
   refine (has_no _ b s z y1.2 (200 - k) d Sy.s_eqeq HR2.out h1).mono ?_; rintro en w' ⟨rfl, rfl⟩
   go_wp2_with fail
   rw [rounds_succ]
   go_wp2_with fail
   refine (has_no _ b s z y1.2 (200 - k) d Sy.s_lt HR2.out h2).mono ?_; rintro en w' ⟨rfl, rfl⟩
   go_wp2_with fail
   rw [rounds_succ]; obtain ⟨⟨u0, u1, u2, u3, u4⟩, u5, u6, u7, u8, u9⟩ := blk5 HRS1.out
   go_wp2_with fail
   refine bodyPost_ret (v := .agg #[.int .i64 y1.1.kind, .int .i64 y1.1.pos, .string ⟨y1.1.name.toArray⟩, .int .i64 y1.1.num, .slice a1 l1 c1]) (by simp [results, Try.results76, go_sem, u0, u1, u2, u3, u4]) rfl ?_; exact nres_fin (lo := W0.heap.size) y1.1 y1.2 (HV1x1.out.kids.free (by omega)) HR2.out HKA1.out HX.out (by omega) (by omega) (by omega) _ _ _ _ rfl rfl rfl rfl _ _ _ _ _
end Go.Proofs.Ytejciampbnfbhaa
