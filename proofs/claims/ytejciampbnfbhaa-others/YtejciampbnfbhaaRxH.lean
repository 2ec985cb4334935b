import Derived.Test.YtejciampbnfbhaaMRxE
set_option linter.unusedVariables false
set_option linter.unusedSimpArgs false
set_option maxRecDepth 100000
set_option maxHeartbeats 4000000
namespace Go.Proofs.Ytejciampbnfbhaa
open Go.RowKit
theorem NRes.alloc {w W : World} {b e d : Nat} {s : ByteArray} {z : Sy.Env} {x : Sy.Tr × Sy.RS} {en : Ending} (h : NRes w b s z x e d en W) (o : Obj) : NRes w b s z x e d en (W.alloc o) := by
 obtain ⟨a, l, c, h1, h2, h3, h4⟩ := h
 exact ⟨a, l, c, h1, h2.out.pastF ((Below.refl _ _).alloc (Nat.le_refl _) o), h3.out.alloc o, h4.out.alloc o⟩
theorem let_m (N k : Nat) (hE : ExprOK N k) (w : World) (b : Nat) (s : ByteArray) (z : Sy.Env) (p : Nat) (S : Sy.RS) (d : Nat) (h : Rd w b s z S (200 - k) d) (hm : Sy.mu S < N) :
  Calls Try.prog 73 #[.pointer (some ⟨b, 0, none⟩), .int .i64 p] w fun en w' => NRes w b s z (Sy.letA z N (Sy.exprA z N k) p S) (200 - k) d en w' := by
 have H := hid h
 have HM := hid hm
 have hlt := h.lt
 clear h hm
 cases h1 : Sy.isA Sy.w_rec S with
 | false =>
  go_enter Try.func73, Try.ntmps73
  go_wp2_with fail
  obtain ⟨W0, hW0, HI⟩ := in1 H.out 35
  rw [hW0]
  have HW0 := hid hW0
  clear hW0
  have hz0 := HI.out.size
  have HM0 : Hid (Sy.mu S < N) := HM
  have HX : Hid (Sy.letA z N (Sy.exprA z N k) p S = (.mk 9 p (Sy.nameA z S).1.1 0 [(Sy.paramsA z (Sy.exprA z N k) Sy.s_eq N false (Sy.nameA z S).2).1, (Sy.exprA z N k (Sy.mustA z Sy.w_in (Sy.paramsA z (Sy.exprA z N k) Sy.s_eq N false (Sy.nameA z S).2).2)).1], (Sy.exprA z N k (Sy.mustA z Sy.w_in (Sy.paramsA z (Sy.exprA z N k) Sy.s_eq N false (Sy.nameA z S).2).2)).2)) := by simp [Hid, Sy.letA, Sy.hasA, h1]
  have HM1 : Hid (Sy.mu (Sy.nameA z S).2 < N) := Nat.lt_of_le_of_lt (Sy.mu_name z _) HM0.out
  have HM2 : Hid (Sy.mu (Sy.mustA z Sy.w_in (Sy.paramsA z (Sy.exprA z N k) Sy.s_eq N false (Sy.nameA z S).2).2) < N) := Nat.lt_of_le_of_lt (Nat.le_trans (Sy.mu_must z _ _) (Sy.mu_params z (Sy.mu_expr z N k) _ N _ _)) HM1.out
  refine (has_no _ b s z S (200 - k) d Sy.w_rec HI.out.rd h1).mono ?_
  rintro en w' ⟨rfl, rfl⟩
  go_wp2_with fail
  refine (name_m _ b s z S (200 - k) d HI.out.rd).mono ?_
  rintro en w1 ⟨rfl, hr1, hk1⟩
  have HR1 := hid hr1
  have HK1 := hid hk1
  clear hr1 hk1
  have HRS1 := hid (HI.out.one.kp HK1.out (by omega))
  have HKA1 := hid (HI.out.kp.trans HK1.out)
  have ht1 := HK1.out.size
  generalize hq : Sy.nameA z S = q at *
  have HQ := hid hq
  clear hq
  go_wp2_with fail
  refine (params_m N k hE Sy.s_eq N w1 b s z false q.2 d HR1.out HM1.out HM1.out).mono ?_
  rintro en w2 ⟨a2, l2, c2, rfl, HKd2, HR2, HK2⟩
  generalize hy2 : Sy.paramsA z (Sy.exprA z N k) Sy.s_eq N false q.2 = y2 at *
  have HY2 := hid hy2
  clear hy2
  obtain ⟨W2, hW2, HV2, HRd2, HKp2, hs2, ht2⟩ := var_new HKd2.out HR2.out HK2.out 35
  have HRS2 := hid (HRS1.out.kp HKp2.out (by omega))
  have HKA2 := hid (HKA1.out.trans HKp2.out)
  go_wp2_with fail
  try rw [hW2]
  clear hW2
  refine (must_m _ b s z y2.2 (200 - k) d Sy.w_in HRd2.out).mono ?_
  rintro en w3 ⟨rfl, hr3, hk3⟩
  have HR3 := hid hr3
  have HK3 := hid hk3
  clear hr3 hk3
  have HV2x3 := hid (HV2.out.kp HK3.out (by omega) (by omega))
  have HRS3 := hid (HRS2.out.kp HK3.out (by omega))
  have HKA3 := hid (HKA2.out.trans HK3.out)
  have ht3 := HK3.out.size
  go_wp2_with fail
  refine (hE w3 b s z (Sy.mustA z Sy.w_in y2.2) d HR3.out HM2.out).mono ?_
  rintro en w4 ⟨a4, l4, c4, rfl, HKd4, HR4, HK4⟩
  generalize hy4 : Sy.exprA z N k (Sy.mustA z Sy.w_in y2.2) = y4 at *
  have HY4 := hid hy4
  clear hy4
  obtain ⟨W4, hW4, HV4, HRd4, HKp4, hs4, ht4⟩ := var_new HKd4.out HR4.out HK4.out 35
  have HV2x4 := hid (HV2x3.out.kp HKp4.out (by omega) (by omega))
  have HRS4 := hid (HRS3.out.kp HKp4.out (by omega))
  have HKA4 := hid (HKA3.out.trans HKp4.out)
  obtain ⟨⟨q2_0, q2_1, q2_2, q2_3, q2_4⟩, q2_5, q2_6, q2_7, q2_8, q2_9⟩ := blk5 HV2x4.out.cells
  obtain ⟨⟨q4_0, q4_1, q4_2, q4_3, q4_4⟩, q4_5, q4_6, q4_7, q4_8, q4_9⟩ := blk5 HV4.out.cells
  go_wp2_with fail
  try rw [hW4]
  clear hW4
  refine (named_m _ _ _ _ _ _ _).mono ?_
  rintro en w5 ⟨rfl, HB5⟩
  have HKN5 := hid (kids_new (F := (fun g => W0.heap.size ≤ g)) [(y2.1, .slice a2 l2 c2), (y4.1, .slice a4 l4 c4)] (by simp) (by show W0.heap.size ≤ _; omega) (by intro p hp; simp only [List.mem_cons, or_false, List.not_mem_nil] at hp; rcases hp with rfl | rfl <;> first | exact HV2x4.out.kids.free (by omega) | exact HV4.out.kids.free (by omega)) _ rfl 2 rfl HB5.out)
  have HV2x5 := hid (HV2x4.out.past (Below.trans ((Below.refl _ _).alloc (Nat.le_refl _) _) (HB5.out.mono (by simp))))
  have HV4x5 := hid (HV4.out.past (Below.trans ((Below.refl _ _).alloc (Nat.le_refl _) _) (HB5.out.mono (by simp))))
  have HRS5 := hid (HRS4.out.past (Below.trans ((Below.refl _ _).alloc (Nat.le_refl _) _) (HB5.out.mono (by simp))))
  have HKA5 := hid (HKA4.out.below (Below.trans ((Below.refl _ _).alloc (Nat.le_refl _) _) (HB5.out.mono (by simp))))
  have HR5 := hid ((HRd4.out.alloc _).below HB5.out ((HRd4.out.alloc _).lt))
  have hw5 : W4.heap.size + 1 ≤ w5.heap.size := by have := HB5.out.size; simp at this; omega
  obtain ⟨⟨u0, u1, u2, u3, u4⟩, u5, u6, u7, u8, u9⟩ := blk5 HRS5.out
  have hlw : w.heap.size < w5.heap.size := HRS5.out.lt
  go_wp2_with fail
  refine bodyPost_ret (v := .agg #[.int .i64 9, .int .i64 p, .string ⟨q.1.1.toArray⟩, .int .i64 0, .slice (some ⟨W4.heap.size, 0, none⟩) 2 2]) (by simp [results, Try.results73, go_sem, u0, u1, u2, u3, u4, hlw]) rfl ?_
  refine NRes.alloc ?_ _
  exact nres_fin (lo := W0.heap.size) (.mk 9 p q.1.1 0 [y2.1, y4.1]) y4.2 HKN5.out HR5.out HKA5.out HX.out (by omega) (by omega) (by omega) _ _ _ _ rfl rfl rfl rfl _ _ _ _ _
 | true =>
  go_enter Try.func73, Try.ntmps73
  go_wp2_with fail
  obtain ⟨W0, hW0, HI⟩ := in1 H.out 35
  rw [hW0]
  have HW0 := hid hW0
  clear hW0
  have hz0 := HI.out.size
  have HM0 : Hid (Sy.mu (Sy.nextA z S) < N) := Nat.lt_trans (Sy.mu_is z h1) HM.out
  have HX : Hid (Sy.letA z N (Sy.exprA z N k) p S = (.mk 9 p (Sy.nameA z (Sy.nextA z S)).1.1 1 [(Sy.paramsA z (Sy.exprA z N k) Sy.s_eq N true (Sy.nameA z (Sy.nextA z S)).2).1, (Sy.exprA z N k (Sy.mustA z Sy.w_in (Sy.paramsA z (Sy.exprA z N k) Sy.s_eq N true (Sy.nameA z (Sy.nextA z S)).2).2)).1], (Sy.exprA z N k (Sy.mustA z Sy.w_in (Sy.paramsA z (Sy.exprA z N k) Sy.s_eq N true (Sy.nameA z (Sy.nextA z S)).2).2)).2)) := by simp [Hid, Sy.letA, Sy.hasA, h1]
  have HM1 : Hid (Sy.mu (Sy.nameA z (Sy.nextA z S)).2 < N) := Nat.lt_of_le_of_lt (Sy.mu_name z _) HM0.out
  have HM2 : Hid (Sy.mu (Sy.mustA z Sy.w_in (Sy.paramsA z (Sy.exprA z N k) Sy.s_eq N true (Sy.nameA z (Sy.nextA z S)).2).2) < N) := Nat.lt_of_le_of_lt (Nat.le_trans (Sy.mu_must z _ _) (Sy.mu_params z (Sy.mu_expr z N k) _ N _ _)) HM1.out
  refine (has_yes _ b s z S (200 - k) d Sy.w_rec HI.out.rd h1).mono ?_
  rintro en w1 ⟨rfl, hr1, hk1⟩
  have HR1 := hid hr1
  have HK1 := hid hk1
  clear hr1 hk1
  have HRS1 := hid (HI.out.one.kp HK1.out (by omega))
  have HKA1 := hid (HI.out.kp.trans HK1.out)
  have ht1 := HK1.out.size
  go_wp2_with fail
  refine (name_m _ b s z (Sy.nextA z S) (200 - k) d HR1.out).mono ?_
  rintro en w2 ⟨rfl, hr2, hk2⟩
  have HR2 := hid hr2
  have HK2 := hid hk2
  clear hr2 hk2
  have HRS2 := hid (HRS1.out.kp HK2.out (by omega))
  have HKA2 := hid (HKA1.out.trans HK2.out)
  have ht2 := HK2.out.size
  generalize hq : Sy.nameA z (Sy.nextA z S) = q at *
  have HQ := hid hq
  clear hq
  go_wp2_with fail
  refine (params_m N k hE Sy.s_eq N w2 b s z true q.2 d HR2.out HM1.out HM1.out).mono ?_
  rintro en w3 ⟨a3, l3, c3, rfl, HKd3, HR3, HK3⟩
  generalize hy3 : Sy.paramsA z (Sy.exprA z N k) Sy.s_eq N true q.2 = y3 at *
  have HY3 := hid hy3
  clear hy3
  obtain ⟨W3, hW3, HV3, HRd3, HKp3, hs3, ht3⟩ := var_new HKd3.out HR3.out HK3.out 35
  have HRS3 := hid (HRS2.out.kp HKp3.out (by omega))
  have HKA3 := hid (HKA2.out.trans HKp3.out)
  go_wp2_with fail
  try rw [hW3]
  clear hW3
  refine (must_m _ b s z y3.2 (200 - k) d Sy.w_in HRd3.out).mono ?_
  rintro en w4 ⟨rfl, hr4, hk4⟩
  have HR4 := hid hr4
  have HK4 := hid hk4
  clear hr4 hk4
  have HV3x4 := hid (HV3.out.kp HK4.out (by omega) (by omega))
  have HRS4 := hid (HRS3.out.kp HK4.out (by omega))
  have HKA4 := hid (HKA3.out.trans HK4.out)
  have ht4 := HK4.out.size
  go_wp2_with fail
  refine (hE w4 b s z (Sy.mustA z Sy.w_in y3.2) d HR4.out HM2.out).mono ?_
  rintro en w5 ⟨a5, l5, c5, rfl, HKd5, HR5, HK5⟩
  generalize hy5 : Sy.exprA z N k (Sy.mustA z Sy.w_in y3.2) = y5 at *
  have HY5 := hid hy5
  clear hy5
  obtain ⟨W5, hW5, HV5, HRd5, HKp5, hs5, ht5⟩ := var_new HKd5.out HR5.out HK5.out 35
  have HV3x5 := hid (HV3x4.out.kp HKp5.out (by omega) (by omega))
  have HRS5 := hid (HRS4.out.kp HKp5.out (by omega))
  have HKA5 := hid (HKA4.out.trans HKp5.out)
  obtain ⟨⟨q3_0, q3_1, q3_2, q3_3, q3_4⟩, q3_5, q3_6, q3_7, q3_8, q3_9⟩ := blk5 HV3x5.out.cells
  obtain ⟨⟨q5_0, q5_1, q5_2, q5_3, q5_4⟩, q5_5, q5_6, q5_7, q5_8, q5_9⟩ := blk5 HV5.out.cells
  go_wp2_with fail
  try rw [hW5]
  clear hW5
  refine (named_m _ _ _ _ _ _ _).mono ?_
  rintro en w6 ⟨rfl, HB6⟩
  have HKN6 := hid (kids_new (F := (fun g => W0.heap.size ≤ g)) [(y3.1, .slice a3 l3 c3), (y5.1, .slice a5 l5 c5)] (by simp) (by show W0.heap.size ≤ _; omega) (by intro p hp; simp only [List.mem_cons, or_false, List.not_mem_nil] at hp; rcases hp with rfl | rfl <;> first | exact HV3x5.out.kids.free (by omega) | exact HV5.out.kids.free (by omega)) _ rfl 2 rfl HB6.out)
  have HV3x6 := hid (HV3x5.out.past (Below.trans ((Below.refl _ _).alloc (Nat.le_refl _) _) (HB6.out.mono (by simp))))
  have HV5x6 := hid (HV5.out.past (Below.trans ((Below.refl _ _).alloc (Nat.le_refl _) _) (HB6.out.mono (by simp))))
  have HRS6 := hid (HRS5.out.past (Below.trans ((Below.refl _ _).alloc (Nat.le_refl _) _) (HB6.out.mono (by simp))))
  have HKA6 := hid (HKA5.out.below (Below.trans ((Below.refl _ _).alloc (Nat.le_refl _) _) (HB6.out.mono (by simp))))
  have HR6 := hid ((HRd5.out.alloc _).below HB6.out ((HRd5.out.alloc _).lt))
  have hw6 : W5.heap.size + 1 ≤ w6.heap.size := by have := HB6.out.size; simp at this; omega
  obtain ⟨⟨u0, u1, u2, u3, u4⟩, u5, u6, u7, u8, u9⟩ := blk5 HRS6.out
  have hlw : w.heap.size < w6.heap.size := HRS6.out.lt
  go_wp2_with fail
  refine bodyPost_ret (v := .agg #[.int .i64 9, .int .i64 p, .string ⟨q.1.1.toArray⟩, .int .i64 1, .slice (some ⟨W5.heap.size, 0, none⟩) 2 2]) (by simp [results, Try.results73, go_sem, u0, u1, u2, u3, u4, hlw]) rfl ?_
  refine NRes.alloc ?_ _
  exact nres_fin (lo := W0.heap.size) (.mk 9 p q.1.1 1 [y3.1, y5.1]) y5.2 HKN6.out HR6.out HKA6.out HX.out (by omega) (by omega) (by omega) _ _ _ _ rfl rfl rfl rfl _ _ _ _ _
theorem cases_m (N k : Nat) (hE : ExprOK N k) (w : World) (b : Nat) (s : ByteArray) (z : Sy.Env) (p : Nat) (S : Sy.RS) (d : Nat) (h : Rd w b s z S (200 - k) d) (hm : Sy.mu S < N) :
  Calls Try.prog 74 #[.pointer (some ⟨b, 0, none⟩), .int .i64 p] w fun en w' => NRes w b s z (Sy.casesA z (Sy.exprA z N k) p S) (200 - k) d en w' := by
 have H := hid h
 have HM := hid hm
 have hlt := h.lt
 clear h hm
 go_enter Try.func74, Try.ntmps74
 go_wp2_with fail
 obtain ⟨W0, hW0, HI⟩ := in1 H.out 35
 rw [hW0]
 have HW0 := hid hW0
 clear hW0
 have hz0 := HI.out.size
 have HX : Hid (Sy.casesA z (Sy.exprA z N k) p S = Sy.casesA z (Sy.exprA z N k) p S) := rfl
 refine (hE W0 b s z S d HI.out.rd HM.out).mono ?_
 rintro en w1 ⟨a1, l1, c1, rfl, HKd1, HR1, HK1⟩
 generalize hy1 : Sy.exprA z N k S = y1 at *
 have HY1 := hid hy1
 clear hy1
 obtain ⟨W1, hW1, HV1, HRd1, HKp1, hs1, ht1⟩ := var_new HKd1.out HR1.out HK1.out 35
 have HRS1 := hid (HI.out.one.kp HKp1.out (by omega))
 have HKA1 := hid (HI.out.kp.trans HKp1.out)
 have HMU1 := hid (Sy.mu_expr z N k S)
 rw [HY1.out] at HMU1
 go_wp2_with fail
 try rw [hW1]
 clear hW1
 refine (must_m _ b s z y1.2 (200 - k) d Sy.w_of HRd1.out).mono ?_
 rintro en w2 ⟨rfl, hr2, hk2⟩
 have HR2 := hid hr2
 have HK2 := hid hk2
 clear hr2 hk2
 have HV1x2 := hid (HV1.out.kp HK2.out (by omega) (by omega))
 have HRS2 := hid (HRS1.out.kp HK2.out (by omega))
 have HKA2 := hid (HKA1.out.trans HK2.out)
 have ht2 := HK2.out.size
 go_wp2_with fail
 refine (must_m _ b s z (Sy.mustA z Sy.w_of y1.2) (200 - k) d Sy.s_ls HR2.out).mono ?_
 rintro en w3 ⟨rfl, hr3, hk3⟩
 have HR3 := hid hr3
 have HK3 := hid hk3
 clear hr3 hk3
 have HV1x3 := hid (HV1x2.out.kp HK3.out (by omega) (by omega))
 have HRS3 := hid (HRS2.out.kp HK3.out (by omega))
 have HKA3 := hid (HKA2.out.trans HK3.out)
 have ht3 := HK3.out.size
 go_wp2_with fail
 refine (must_m _ b s z (Sy.mustA z Sy.s_ls (Sy.mustA z Sy.w_of y1.2)) (200 - k) d Sy.s_rs HR3.out).mono ?_
 rintro en w4 ⟨rfl, hr4, hk4⟩
 have HR4 := hid hr4
 have HK4 := hid hk4
 clear hr4 hk4
 have HV1x4 := hid (HV1x3.out.kp HK4.out (by omega) (by omega))
 have HRS4 := hid (HRS3.out.kp HK4.out (by omega))
 have HKA4 := hid (HKA3.out.trans HK4.out)
 have ht4 := HK4.out.size
 go_wp2_with fail
 refine (must_m _ b s z (Sy.mustA z Sy.s_rs (Sy.mustA z Sy.s_ls (Sy.mustA z Sy.w_of y1.2))) (200 - k) d Sy.s_to HR4.out).mono ?_
 rintro en w5 ⟨rfl, hr5, hk5⟩
 have HR5 := hid hr5
 have HK5 := hid hk5
 clear hr5 hk5
 have HV1x5 := hid (HV1x4.out.kp HK5.out (by omega) (by omega))
 have HRS5 := hid (HRS4.out.kp HK5.out (by omega))
 have HKA5 := hid (HKA4.out.trans HK5.out)
 have ht5 := HK5.out.size
 go_wp2_with fail
 have HM2 : Hid (Sy.mu (Sy.mustA z Sy.s_to (Sy.mustA z Sy.s_rs (Sy.mustA z Sy.s_ls (Sy.mustA z Sy.w_of y1.2)))) < N) := Nat.lt_of_le_of_lt (Nat.le_trans (Sy.mu_must z _ _) (Nat.le_trans (Sy.mu_must z _ _) (Nat.le_trans (Sy.mu_must z _ _) (Nat.le_trans (Sy.mu_must z _ _) HMU1.out)))) HM.out
 refine (hE w5 b s z (Sy.mustA z Sy.s_to (Sy.mustA z Sy.s_rs (Sy.mustA z Sy.s_ls (Sy.mustA z Sy.w_of y1.2)))) d HR5.out HM2.out).mono ?_
 rintro en w6 ⟨a6, l6, c6, rfl, HKd6, HR6, HK6⟩
 generalize hy6 : Sy.exprA z N k (Sy.mustA z Sy.s_to (Sy.mustA z Sy.s_rs (Sy.mustA z Sy.s_ls (Sy.mustA z Sy.w_of y1.2)))) = y6 at *
 have HY6 := hid hy6
 clear hy6
 obtain ⟨W6, hW6, HV6, HRd6, HKp6, hs6, ht6⟩ := var_new HKd6.out HR6.out HK6.out 35
 have HV1x6 := hid (HV1x5.out.kp HKp6.out (by omega) (by omega))
 have HRS6 := hid (HRS5.out.kp HKp6.out (by omega))
 have HKA6 := hid (HKA5.out.trans HKp6.out)
 have HMU2 := hid (Sy.mu_expr z N k (Sy.mustA z Sy.s_to (Sy.mustA z Sy.s_rs (Sy.mustA z Sy.s_ls (Sy.mustA z Sy.w_of y1.2)))))
 rw [HY6.out] at HMU2
 go_wp2_with fail
 try rw [hW6]
 clear hW6
 refine (must_m _ b s z y6.2 (200 - k) d Sy.s_bar HRd6.out).mono ?_
 rintro en w7 ⟨rfl, hr7, hk7⟩
 have HR7 := hid hr7
 have HK7 := hid hk7
 clear hr7 hk7
 have HV1x7 := hid (HV1x6.out.kp HK7.out (by omega) (by omega))
 have HV6x7 := hid (HV6.out.kp HK7.out (by omega) (by omega))
 have HRS7 := hid (HRS6.out.kp HK7.out (by omega))
 have HKA7 := hid (HKA6.out.trans HK7.out)
 have ht7 := HK7.out.size
 go_wp2_with fail
 refine (name_m _ b s z (Sy.mustA z Sy.s_bar y6.2) (200 - k) d HR7.out).mono ?_
 rintro en w8 ⟨rfl, hr8, hk8⟩
 have HR8 := hid hr8
 have HK8 := hid hk8
 clear hr8 hk8
 have HV1x8 := hid (HV1x7.out.kp HK8.out (by omega) (by omega))
 have HV6x8 := hid (HV6x7.out.kp HK8.out (by omega) (by omega))
 have HRS8 := hid (HRS7.out.kp HK8.out (by omega))
 have HKA8 := hid (HKA7.out.trans HK8.out)
 have ht8 := HK8.out.size
 have HMQ := hid (Sy.mu_name z (Sy.mustA z Sy.s_bar y6.2))
 generalize hq : Sy.nameA z (Sy.mustA z Sy.s_bar y6.2) = q at *
 have HQ := hid hq
 clear hq
 go_wp2_with fail
 refine (must_m _ b s z q.2 (200 - k) d Sy.s_cons HR8.out).mono ?_
 rintro en w9 ⟨rfl, hr9, hk9⟩
 have HR9 := hid hr9
 have HK9 := hid hk9
 clear hr9 hk9
 have HV1x9 := hid (HV1x8.out.kp HK9.out (by omega) (by omega))
 have HV6x9 := hid (HV6x8.out.kp HK9.out (by omega) (by omega))
 have HRS9 := hid (HRS8.out.kp HK9.out (by omega))
 have HKA9 := hid (HKA8.out.trans HK9.out)
 have ht9 := HK9.out.size
 go_wp2_with fail
 refine (name_m _ b s z (Sy.mustA z Sy.s_cons q.2) (200 - k) d HR9.out).mono ?_
 rintro en w10 ⟨rfl, hr10, hk10⟩
 have HR10 := hid hr10
 have HK10 := hid hk10
 clear hr10 hk10
 have HV1x10 := hid (HV1x9.out.kp HK10.out (by omega) (by omega))
 have HV6x10 := hid (HV6x9.out.kp HK10.out (by omega) (by omega))
 have HRS10 := hid (HRS9.out.kp HK10.out (by omega))
 have HKA10 := hid (HKA9.out.trans HK10.out)
 have ht10 := HK10.out.size
 have HMR := hid (Sy.mu_name z (Sy.mustA z Sy.s_cons q.2))
 generalize hr : Sy.nameA z (Sy.mustA z Sy.s_cons q.2) = r at *
 have HRR := hid hr
 clear hr
 go_wp2_with fail
 refine (must_m _ b s z r.2 (200 - k) d Sy.s_to HR10.out).mono ?_
 rintro en w11 ⟨rfl, hr11, hk11⟩
 have HR11 := hid hr11
 have HK11 := hid hk11
 clear hr11 hk11
 have HV1x11 := hid (HV1x10.out.kp HK11.out (by omega) (by omega))
 have HV6x11 := hid (HV6x10.out.kp HK11.out (by omega) (by omega))
 have HRS11 := hid (HRS10.out.kp HK11.out (by omega))
 have HKA11 := hid (HKA10.out.trans HK11.out)
 have ht11 := HK11.out.size
 go_wp2_with fail
 have HM3 : Hid (Sy.mu (Sy.mustA z Sy.s_to r.2) < N) := Nat.lt_of_le_of_lt (Nat.le_trans (Sy.mu_must z _ _) (Nat.le_trans HMR.out (Nat.le_trans (Sy.mu_must z _ _) (Nat.le_trans HMQ.out (Nat.le_trans (Sy.mu_must z _ _) HMU2.out))))) HM2.out
 refine (hE w11 b s z (Sy.mustA z Sy.s_to r.2) d HR11.out HM3.out).mono ?_
 rintro en w12 ⟨a12, l12, c12, rfl, HKd12, HR12, HK12⟩
 generalize hy12 : Sy.exprA z N k (Sy.mustA z Sy.s_to r.2) = y12 at *
 have HY12 := hid hy12
 clear hy12
 obtain ⟨W12, hW12, HV12, HRd12, HKp12, hs12, ht12⟩ := var_new HKd12.out HR12.out HK12.out 35
 have HV1x12 := hid (HV1x11.out.kp HKp12.out (by omega) (by omega))
 have HV6x12 := hid (HV6x11.out.kp HKp12.out (by omega) (by omega))
 have HRS12 := hid (HRS11.out.kp HKp12.out (by omega))
 have HKA12 := hid (HKA11.out.trans HKp12.out)
 go_wp2_with fail
 try rw [hW12]
 clear hW12
 refine (must_m _ b s z y12.2 (200 - k) d Sy.w_end HRd12.out).mono ?_
 rintro en w13 ⟨rfl, hr13, hk13⟩
 have HR13 := hid hr13
 have HK13 := hid hk13
 clear hr13 hk13
 have HV1x13 := hid (HV1x12.out.kp HK13.out (by omega) (by omega))
 have HV6x13 := hid (HV6x12.out.kp HK13.out (by omega) (by omega))
 have HV12x13 := hid (HV12.out.kp HK13.out (by omega) (by omega))
 have HRS13 := hid (HRS12.out.kp HK13.out (by omega))
 have HKA13 := hid (HKA12.out.trans HK13.out)
 have ht13 := HK13.out.size
 obtain ⟨⟨q1_0, q1_1, q1_2, q1_3, q1_4⟩, q1_5, q1_6, q1_7, q1_8, q1_9⟩ := blk5 HV1x13.out.cells
 obtain ⟨⟨q6_0, q6_1, q6_2, q6_3, q6_4⟩, q6_5, q6_6, q6_7, q6_8, q6_9⟩ := blk5 HV6x13.out.cells
 obtain ⟨⟨q12_0, q12_1, q12_2, q12_3, q12_4⟩, q12_5, q12_6, q12_7, q12_8, q12_9⟩ := blk5 HV12x13.out.cells
 go_wp2_with fail
 obtain ⟨⟨u0, u1, u2, u3, u4⟩, u5, u6, u7, u8, u9⟩ := blk5 HRS13.out
 have hlt1 : w1.heap.size < w13.heap.size := HV1x13.out.cells.lt
 have hlt6 : w6.heap.size < w13.heap.size := HV6x13.out.cells.lt
 have hlt12 : w12.heap.size < w13.heap.size := HV12x13.out.cells.lt
 have hne1 : w.heap.size ≠ w1.heap.size := by omega
 have hne6 : w.heap.size ≠ w6.heap.size := by omega
 have hne12 : w.heap.size ≠ w12.heap.size := by omega
 have hltR : w.heap.size < w13.heap.size := HRS13.out.lt
 have HKX : Hid (Below w13.heap.size w13 w13.drew) := (Below.refl _ _).drew
 go_region_held3 (fun w' => w'.cell? ⟨w1.heap.size, 0, none⟩ = some (.int .i64 y1.1.kind) ∧ w'.cell? ⟨w1.heap.size, 1, none⟩ = some (.int .i64 y1.1.pos) ∧ w'.cell? ⟨w1.heap.size, 2, none⟩ = some (.string ⟨y1.1.name.toArray⟩) ∧ w'.cell? ⟨w1.heap.size, 3, none⟩ = some (.int .i64 y1.1.num) ∧ w'.cell? ⟨w1.heap.size, 4, none⟩ = some (.slice a1 l1 c1) ∧ w'.cell? ⟨w6.heap.size, 0, none⟩ = some (.int .i64 y6.1.kind) ∧ w'.cell? ⟨w6.heap.size, 1, none⟩ = some (.int .i64 y6.1.pos) ∧ w'.cell? ⟨w6.heap.size, 2, none⟩ = some (.string ⟨y6.1.name.toArray⟩) ∧ w'.cell? ⟨w6.heap.size, 3, none⟩ = some (.int .i64 y6.1.num) ∧ w'.cell? ⟨w6.heap.size, 4, none⟩ = some (.slice a6 l6 c6) ∧ w'.cell? ⟨w12.heap.size, 0, none⟩ = some (.int .i64 y12.1.kind) ∧ w'.cell? ⟨w12.heap.size, 1, none⟩ = some (.int .i64 y12.1.pos) ∧ w'.cell? ⟨w12.heap.size, 2, none⟩ = some (.string ⟨y12.1.name.toArray⟩) ∧ w'.cell? ⟨w12.heap.size, 3, none⟩ = some (.int .i64 y12.1.num) ∧ w'.cell? ⟨w12.heap.size, 4, none⟩ = some (.slice a12 l12 c12)) (go_keep)
  (first
   | (go_at_call 20; refine (named_m _ _ _ _ _ _ _).mono ?_; rintro en wA ⟨rfl, HBA⟩; have jc1_0 := (bcell HBA.out).1 w1.heap.size 0 (by first | exact lz1 | exact hlt1); have jc1_1 := (bcell HBA.out).1 w1.heap.size 1 (by first | exact lz1 | exact hlt1); have jc1_2 := (bcell HBA.out).1 w1.heap.size 2 (by first | exact lz1 | exact hlt1); have jc1_3 := (bcell HBA.out).1 w1.heap.size 3 (by first | exact lz1 | exact hlt1); have jc1_4 := (bcell HBA.out).1 w1.heap.size 4 (by first | exact lz1 | exact hlt1); have jc6_0 := (bcell HBA.out).1 w6.heap.size 0 (by first | exact lz6 | exact hlt6); have jc6_1 := (bcell HBA.out).1 w6.heap.size 1 (by first | exact lz6 | exact hlt6); have jc6_2 := (bcell HBA.out).1 w6.heap.size 2 (by first | exact lz6 | exact hlt6); have jc6_3 := (bcell HBA.out).1 w6.heap.size 3 (by first | exact lz6 | exact hlt6); have jc6_4 := (bcell HBA.out).1 w6.heap.size 4 (by first | exact lz6 | exact hlt6); have jc12_0 := (bcell HBA.out).1 w12.heap.size 0 (by first | exact lz12 | exact hlt12); have jc12_1 := (bcell HBA.out).1 w12.heap.size 1 (by first | exact lz12 | exact hlt12); have jc12_2 := (bcell HBA.out).1 w12.heap.size 2 (by first | exact lz12 | exact hlt12); have jc12_3 := (bcell HBA.out).1 w12.heap.size 3 (by first | exact lz12 | exact hlt12); have jc12_4 := (bcell HBA.out).1 w12.heap.size 4 (by first | exact lz12 | exact hlt12); have jr0 := (bcell HBA.out).1 w.heap.size 0 (by first | exact lzR | exact hltR); have jf0 := (bcell HBA.out).2 w.heap.size 0 (by first | exact lzR | exact hltR); have jr1 := (bcell HBA.out).1 w.heap.size 1 (by first | exact lzR | exact hltR); have jf1 := (bcell HBA.out).2 w.heap.size 1 (by first | exact lzR | exact hltR); have jr2 := (bcell HBA.out).1 w.heap.size 2 (by first | exact lzR | exact hltR); have jf2 := (bcell HBA.out).2 w.heap.size 2 (by first | exact lzR | exact hltR); have jr3 := (bcell HBA.out).1 w.heap.size 3 (by first | exact lzR | exact hltR); have jf3 := (bcell HBA.out).2 w.heap.size 3 (by first | exact lzR | exact hltR); have jr4 := (bcell HBA.out).1 w.heap.size 4 (by first | exact lzR | exact hltR); have jf4 := (bcell HBA.out).2 w.heap.size 4 (by first | exact lzR | exact hltR); have hzA := HBA.out.size; (try simp at hzA); have lz1 : w1.heap.size < wA.heap.size := (by omega); have lz6 : w6.heap.size < wA.heap.size := (by omega); have lz12 : w12.heap.size < wA.heap.size := (by omega); have lzR : w.heap.size < wA.heap.size := (by omega); have HKX := hid (HKX.out.trans (HBA.out.mono HKX.out.size)))
   | (go_at_call 15; refine (node_m _ _ _ _ _ _).mono ?_; rintro en wN ⟨rfl, HBA⟩; have jc1_0 := (bcell HBA.out).1 w1.heap.size 0 (by have := lz1; simp; omega); have jc1_1 := (bcell HBA.out).1 w1.heap.size 1 (by have := lz1; simp; omega); have jc1_2 := (bcell HBA.out).1 w1.heap.size 2 (by have := lz1; simp; omega); have jc1_3 := (bcell HBA.out).1 w1.heap.size 3 (by have := lz1; simp; omega); have jc1_4 := (bcell HBA.out).1 w1.heap.size 4 (by have := lz1; simp; omega); have jc6_0 := (bcell HBA.out).1 w6.heap.size 0 (by have := lz6; simp; omega); have jc6_1 := (bcell HBA.out).1 w6.heap.size 1 (by have := lz6; simp; omega); have jc6_2 := (bcell HBA.out).1 w6.heap.size 2 (by have := lz6; simp; omega); have jc6_3 := (bcell HBA.out).1 w6.heap.size 3 (by have := lz6; simp; omega); have jc6_4 := (bcell HBA.out).1 w6.heap.size 4 (by have := lz6; simp; omega); have jc12_0 := (bcell HBA.out).1 w12.heap.size 0 (by have := lz12; simp; omega); have jc12_1 := (bcell HBA.out).1 w12.heap.size 1 (by have := lz12; simp; omega); have jc12_2 := (bcell HBA.out).1 w12.heap.size 2 (by have := lz12; simp; omega); have jc12_3 := (bcell HBA.out).1 w12.heap.size 3 (by have := lz12; simp; omega); have jc12_4 := (bcell HBA.out).1 w12.heap.size 4 (by have := lz12; simp; omega); have jr0 := (bcell HBA.out).1 w.heap.size 0 (by have := lzR; simp; omega); have jf0 := (bcell HBA.out).2 w.heap.size 0 (by have := lzR; simp; omega); have jr1 := (bcell HBA.out).1 w.heap.size 1 (by have := lzR; simp; omega); have jf1 := (bcell HBA.out).2 w.heap.size 1 (by have := lzR; simp; omega); have jr2 := (bcell HBA.out).1 w.heap.size 2 (by have := lzR; simp; omega); have jf2 := (bcell HBA.out).2 w.heap.size 2 (by have := lzR; simp; omega); have jr3 := (bcell HBA.out).1 w.heap.size 3 (by have := lzR; simp; omega); have jf3 := (bcell HBA.out).2 w.heap.size 3 (by have := lzR; simp; omega); have jr4 := (bcell HBA.out).1 w.heap.size 4 (by have := lzR; simp; omega); have jf4 := (bcell HBA.out).2 w.heap.size 4 (by have := lzR; simp; omega); have HKN := hid (kids_new (F := fun g => W0.heap.size ≤ g) [(y1.1, .slice a1 l1 c1), (y6.1, .slice a6 l6 c6), (Sy.nm 23 q.1.2 q.1.1 [], .slice none 0 0), (Sy.nm 23 r.1.2 r.1.1 [], .slice none 0 0), (y12.1, .slice a12 l12 c12)] (by simp) (by show W0.heap.size ≤ wA.heap.size; omega) (by intro p hp; simp only [List.mem_cons, or_false, List.not_mem_nil] at hp; rcases hp with rfl | rfl | rfl | rfl | rfl; exact (HV1x13.out.kids.free (by omega)).carry (fun g _ hlt => HKX.out.block g hlt) (fun _ hg _ => hg); exact (HV6x13.out.kids.free (by omega)).carry (fun g _ hlt => HKX.out.block g hlt) (fun _ hg _ => hg); exact Kids.nil; exact Kids.nil; exact (HV12x13.out.kids.free (by omega)).carry (fun g _ hlt => HKX.out.block g hlt) (fun _ hg _ => hg)) _ rfl 5 rfl HBA.out); have HKX := hid ((HKX.out.alloc HKX.out.size _).trans (HBA.out.mono (Nat.le_trans HKX.out.size (by simp))))))
 have HX2 : Hid (Sy.casesA z (Sy.exprA z N k) p S = (Sy.nd 17 p [y1.1, y6.1, Sy.nm 23 q.1.2 q.1.1 [], Sy.nm 23 r.1.2 r.1.1 [], y12.1], Sy.mustA z Sy.w_end y12.2)) := by
  simp only [Hid, Sy.casesA, HY1.out, HY6.out, HQ.out, HRR.out, HY12.out]
 have HRN := hid ((HRS13.out.of_heap (HKX.out.block w.heap.size hltR)))
 have HRdN := hid (HR13.out.of_heap (HKX.out.block b HR13.out.lt))
 clear u0 u1 u2 u3 u4 u5 u6 u7 u8 u9
 obtain ⟨⟨u0, u1, u2, u3, u4⟩, u5, u6, u7, u8, u9⟩ := blk5 HRN.out
 go_wp2_with fail
 refine bodyPost_ret (v := .agg #[.int .i64 17, .int .i64 p, .string ⟨#[]⟩, .int .i64 0, .slice (some ⟨wA.heap.size, 0, none⟩) 5 5]) (by simp [results, Try.results74, go_sem, u0, u1, u2, u3, u4]) rfl ?_
 exact nres_fin (lo := W0.heap.size) (Sy.nd 17 p [y1.1, y6.1, Sy.nm 23 q.1.2 q.1.1 [], Sy.nm 23 r.1.2 r.1.1 [], y12.1]) (Sy.mustA z Sy.w_end y12.2) HKN.out HRdN.out (HKA13.out.below HKX.out) HX2.out (by omega) (by omega) (by omega) _ _ _ _ rfl rfl rfl rfl _ _ _ _ _
end Go.Proofs.Ytejciampbnfbhaa
