import Derived.Test.YtejciampbnfbhaaRxH
import Derived.Deep.AppendLies
set_option linter.unusedVariables false
set_option linter.unusedSimpArgs false
set_option maxRecDepth 100000
set_option maxHeartbeats 4000000
namespace Go.Proofs.Ytejciampbnfbhaa
open Go.RowKit
def HandleOK (N k : Nat) : Prop := ∀ (w : World) (b : Nat) (s : ByteArray) (z : Sy.Env) (p : Nat) (S : Sy.RS) (d : Nat), Rd w b s z S (200 - k) d → Sy.mu S < N → (Sy.isA Sy.w_handle S = true ∨ Sy.isA Sy.w_shallow S = true) →
 Calls Try.prog 75 #[.pointer (some ⟨b, 0, none⟩), .int .i64 p] w fun en w' => NRes w b s z (Sy.handleA z N (Sy.exprA z N k) p S) (200 - k) d en w'
theorem any_m (N k : Nat) (hE : ExprOK N k) (hS : SquareOK N k) (hH : HandleOK N k) (w : World) (b : Nat) (s : ByteArray) (z : Sy.Env) (S : Sy.RS) (d : Nat) (h : Rd w b s z S (200 - k) d) (hm : Sy.mu S < N) :
  Calls Try.prog 45 #[.pointer (some ⟨b, 0, none⟩)] w fun en w' => NRes w b s z (Sy.anyA z N (Sy.exprA z N k) S) (200 - k) d en w' := by
 obtain ⟨p, hb, _⟩ := h.cells
 have H := hid h
 have HM := hid hm
 have hlt := h.lt
 have c2 := (hb 2 _ rfl).1
 clear h hb hm
 cases h1 : Sy.isA Sy.w_let S with
 | true =>
  go_enter Try.func45, Try.ntmps45
  go_wp2_with fail
  obtain ⟨W0, hW0, HI⟩ := in1 H.out 35
  rw [hW0]
  have HW0 := hid hW0
  clear hW0
  have hz0 := HI.out.size
  have HX : Hid (Sy.anyA z N (Sy.exprA z N k) S = ((Sy.letA z N (Sy.exprA z N k) S.t.pos (Sy.nextA z S)).1, (Sy.letA z N (Sy.exprA z N k) S.t.pos (Sy.nextA z S)).2)) := by simp [Hid, Sy.anyA, h1]
  have HMA : Hid (Sy.mu (Sy.nextA z S) < N) := Nat.lt_trans (Sy.mu_is z h1) HM.out
  refine (has_yes _ b s z S (200 - k) d Sy.w_let HI.out.rd h1).mono ?_
  rintro en w1 ⟨rfl, hr1, hk1⟩
  have HR1 := hid hr1
  have HK1 := hid hk1
  clear hr1 hk1
  have HRS1 := hid (HI.out.one.kp HK1.out (by omega))
  have HKA1 := hid (HI.out.kp.trans HK1.out)
  have ht1 := HK1.out.size
  go_wp2_with fail
  refine (let_m N k hE w1 b s z S.t.pos (Sy.nextA z S) d HR1.out HMA.out).mono ?_
  rintro en w2 ⟨a2, l2, c2, rfl, HKd2, HR2, HK2⟩
  generalize hy2 : Sy.letA z N (Sy.exprA z N k) S.t.pos (Sy.nextA z S) = y2 at *
  have HY2 := hid hy2
  clear hy2
  have HRS2 := hid (HRS1.out.kp HK2.out (by omega))
  have HKA2 := hid (HKA1.out.trans HK2.out)
  have ht2 := HK2.out.size
  obtain ⟨⟨u0, u1, u2, u3, u4⟩, u5, u6, u7, u8, u9⟩ := blk5 HRS2.out
  go_wp2_with fail
  refine bodyPost_ret (v := .agg #[.int .i64 y2.1.kind, .int .i64 y2.1.pos, .string ⟨y2.1.name.toArray⟩, .int .i64 y2.1.num, .slice a2 l2 c2]) (by simp [results, Try.results45, go_sem, u0, u1, u2, u3, u4]) rfl ?_
  exact nres_fin (lo := W0.heap.size) y2.1 y2.2 (HKd2.out.weak (fun g hg _ => Nat.le_trans (by omega) hg)) HR2.out HKA2.out HX.out (by omega) (by omega) (by omega) _ _ _ _ rfl rfl rfl rfl _ _ _ _ _
 | false =>
  cases h2 : Sy.isA Sy.w_fn S with
  | true =>
   go_enter Try.func45, Try.ntmps45
   go_wp2_with fail
   obtain ⟨W0, hW0, HI⟩ := in1 H.out 35; rw [hW0]; have HW0 := hid hW0; clear hW0; have hz0 := HI.out.size; refine (has_no _ b s z S (200 - k) d Sy.w_let HI.out.rd h1).mono ?_; rintro en w' ⟨rfl, rfl⟩
   go_wp2_with fail
   have HX : Hid (Sy.anyA z N (Sy.exprA z N k) S = ((Sy.paramsA z (Sy.exprA z N k) Sy.s_to N true (Sy.nextA z S)).1.at S.t.pos, (Sy.paramsA z (Sy.exprA z N k) Sy.s_to N true (Sy.nextA z S)).2)) := by simp [Hid, Sy.anyA, h1, h2]
   have HMA : Hid (Sy.mu (Sy.nextA z S) < N) := Nat.lt_trans (Sy.mu_is z h2) HM.out; refine (has_yes _ b s z S (200 - k) d Sy.w_fn HI.out.rd h2).mono ?_; rintro en w1 ⟨rfl, hr1, hk1⟩; have HR1 := hid hr1; have HK1 := hid hk1; clear hr1 hk1; have HRS1 := hid (HI.out.one.kp HK1.out (by omega)); have HKA1 := hid (HI.out.kp.trans HK1.out); have ht1 := HK1.out.size
   go_wp2_with fail
   refine (params_m N k hE Sy.s_to N w1 b s z true (Sy.nextA z S) d HR1.out HMA.out HMA.out).mono ?_; rintro en w2 ⟨a2, l2, c2, rfl, HKd2, HR2, HK2⟩; generalize hy2 : Sy.paramsA z (Sy.exprA z N k) Sy.s_to N true (Sy.nextA z S) = y2 at *; have HY2 := hid hy2; clear hy2; have HRS2 := hid (HRS1.out.kp HK2.out (by omega)); have HKA2 := hid (HKA1.out.trans HK2.out); have ht2 := HK2.out.size; have HXT : Hid ((y2.1.at S.t.pos).kids = y2.1.kids) := by cases y2.1; rfl
   have HE1 : Hid ((y2.1.at S.t.pos).kind = y2.1.kind) := by cases y2.1; rfl
   have HE2 : Hid ((y2.1.at S.t.pos).pos = S.t.pos) := by cases y2.1; rfl
   have HE3 : Hid ((y2.1.at S.t.pos).name = y2.1.name) := by cases y2.1; rfl
   have HE4 : Hid ((y2.1.at S.t.pos).num = y2.1.num) := by cases y2.1; rfl
   obtain ⟨⟨u0, u1, u2, u3, u4⟩, u5, u6, u7, u8, u9⟩ := blk5 HRS2.out; have hlw : w.heap.size < w2.heap.size := HRS2.out.lt
   go_wp2_with fail
   refine bodyPost_ret (v := .agg #[.int .i64 y2.1.kind, .int .i64 S.t.pos, .string ⟨y2.1.name.toArray⟩, .int .i64 y2.1.num, .slice a2 l2 c2]) (by simp [results, Try.results45, go_sem, u0, u1, u2, u3, u4, hlw]) rfl ?_; refine NRes.alloc ?_ _; exact nres_fin (lo := W0.heap.size) (y2.1.at S.t.pos) y2.2 (by rw [HXT.out]; exact HKd2.out.weak (fun g hg _ => Nat.le_trans (by omega) hg)) HR2.out HKA2.out HX.out (by omega) (by omega) (by omega) _ _ _ _ (by rw [HE1.out]) (by rw [HE2.out]) (by rw [HE3.out]) (by rw [HE4.out]) _ _ _ _ _
  | false =>
   cases h3 : Sy.isA Sy.w_if S with
   | true =>
    go_enter Try.func45, Try.ntmps45
    go_wp2_with fail
    obtain ⟨W0, hW0, HI⟩ := in1 H.out 35; rw [hW0]; have HW0 := hid hW0; clear hW0; have hz0 := HI.out.size; refine (has_no _ b s z S (200 - k) d Sy.w_let HI.out.rd h1).mono ?_; rintro en w' ⟨rfl, rfl⟩
    go_wp2_with fail
    refine (has_no _ b s z S (200 - k) d Sy.w_fn HI.out.rd h2).mono ?_; rintro en w' ⟨rfl, rfl⟩
    go_wp2_with fail
    have HMA : Hid (Sy.mu (Sy.nextA z S) < N) := Nat.lt_trans (Sy.mu_is z h3) HM.out; refine (has_yes _ b s z S (200 - k) d Sy.w_if HI.out.rd h3).mono ?_; rintro en w1 ⟨rfl, hr1, hk1⟩; have HR1 := hid hr1; have HK1 := hid hk1; clear hr1 hk1; have HRS1 := hid (HI.out.one.kp HK1.out (by omega)); have HKA1 := hid (HI.out.kp.trans HK1.out); have ht1 := HK1.out.size
    go_wp2_with fail
    refine (hE w1 b s z (Sy.nextA z S) d HR1.out HMA.out).mono ?_; rintro en w2 ⟨a2, l2, c2, rfl, HKd2, HR2, HK2⟩; generalize hy2 : Sy.exprA z N k (Sy.nextA z S) = y2 at *; have HY2 := hid hy2; clear hy2; obtain ⟨W2, hW2, HV2, HRd2, HKp2, hs2, ht2⟩ := var_new HKd2.out HR2.out HK2.out 35; have HRS2 := hid (HRS1.out.kp HKp2.out (by omega)); have HKA2 := hid (HKA1.out.trans HKp2.out); have HMU1 := hid (Sy.mu_expr z N k (Sy.nextA z S)); rw [HY2.out] at HMU1
    go_wp2_with fail
    try rw [hW2]
    clear hW2; refine (must_m _ b s z y2.2 (200 - k) d Sy.w_then HRd2.out).mono ?_; rintro en w3 ⟨rfl, hr3, hk3⟩; have HR3 := hid hr3; have HK3 := hid hk3; clear hr3 hk3; have HV2x3 := hid (HV2.out.kp HK3.out (by omega) (by omega)); have HRS3 := hid (HRS2.out.kp HK3.out (by omega)); have HKA3 := hid (HKA2.out.trans HK3.out); have ht3 := HK3.out.size
    go_wp2_with fail
    have HM2 : Hid (Sy.mu (Sy.mustA z Sy.w_then y2.2) < N) := Nat.lt_of_le_of_lt (Nat.le_trans (Sy.mu_must z _ _) HMU1.out) HMA.out; refine (hE w3 b s z (Sy.mustA z Sy.w_then y2.2) d HR3.out HM2.out).mono ?_; rintro en w4 ⟨a4, l4, c4, rfl, HKd4, HR4, HK4⟩; generalize hy4 : Sy.exprA z N k (Sy.mustA z Sy.w_then y2.2) = y4 at *; have HY4 := hid hy4; clear hy4; obtain ⟨W4, hW4, HV4, HRd4, HKp4, hs4, ht4⟩ := var_new HKd4.out HR4.out HK4.out 35; have HV2x4 := hid (HV2x3.out.kp HKp4.out (by omega) (by omega)); have HRS4 := hid (HRS3.out.kp HKp4.out (by omega)); have HKA4 := hid (HKA3.out.trans HKp4.out); have HMU2 := hid (Sy.mu_expr z N k (Sy.mustA z Sy.w_then y2.2)); rw [HY4.out] at HMU2
    go_wp2_with fail
    try rw [hW4]
    clear hW4; refine (must_m _ b s z y4.2 (200 - k) d Sy.w_else HRd4.out).mono ?_; rintro en w5 ⟨rfl, hr5, hk5⟩; have HR5 := hid hr5; have HK5 := hid hk5; clear hr5 hk5; have HV2x5 := hid (HV2x4.out.kp HK5.out (by omega) (by omega)); have HV4x5 := hid (HV4.out.kp HK5.out (by omega) (by omega)); have HRS5 := hid (HRS4.out.kp HK5.out (by omega)); have HKA5 := hid (HKA4.out.trans HK5.out); have ht5 := HK5.out.size
    go_wp2_with fail
    have HM3 : Hid (Sy.mu (Sy.mustA z Sy.w_else y4.2) < N) := Nat.lt_of_le_of_lt (Nat.le_trans (Sy.mu_must z _ _) HMU2.out) HM2.out; refine (hE w5 b s z (Sy.mustA z Sy.w_else y4.2) d HR5.out HM3.out).mono ?_; rintro en w6 ⟨a6, l6, c6, rfl, HKd6, HR6, HK6⟩; generalize hy6 : Sy.exprA z N k (Sy.mustA z Sy.w_else y4.2) = y6 at *; have HY6 := hid hy6; clear hy6; obtain ⟨W6, hW6, HV6, HRd6, HKp6, hs6, ht6⟩ := var_new HKd6.out HR6.out HK6.out 35; have HV2x6 := hid (HV2x5.out.kp HKp6.out (by omega) (by omega)); have HV4x6 := hid (HV4x5.out.kp HKp6.out (by omega) (by omega)); have HRS6 := hid (HRS5.out.kp HKp6.out (by omega)); have HKA6 := hid (HKA5.out.trans HKp6.out); have HX : Hid (Sy.anyA z N (Sy.exprA z N k) S = (Sy.nd 11 S.t.pos [y2.1, y4.1, y6.1], y6.2)) := by simp only [Hid, Sy.anyA, h1, h2, h3, Bool.false_eq_true, if_false, if_true, HY2.out, HY4.out, HY6.out]
    obtain ⟨⟨q2_0, q2_1, q2_2, q2_3, q2_4⟩, q2_5, q2_6, q2_7, q2_8, q2_9⟩ := blk5 HV2x6.out.cells; obtain ⟨⟨q4_0, q4_1, q4_2, q4_3, q4_4⟩, q4_5, q4_6, q4_7, q4_8, q4_9⟩ := blk5 HV4x6.out.cells; obtain ⟨⟨q6_0, q6_1, q6_2, q6_3, q6_4⟩, q6_5, q6_6, q6_7, q6_8, q6_9⟩ := blk5 HV6.out.cells
    go_wp2_with fail
    try rw [hW6]
    clear hW6; refine (node_m _ _ _ _ _ _).mono ?_; rintro en w7 ⟨rfl, HB7⟩; have HKN7 := hid (kids_new (F := (fun g => W0.heap.size ≤ g)) [(y2.1, .slice a2 l2 c2), (y4.1, .slice a4 l4 c4), (y6.1, .slice a6 l6 c6)] (by simp) (by show W0.heap.size ≤ _; omega) (by intro p hp; simp only [List.mem_cons, or_false, List.not_mem_nil] at hp; rcases hp with rfl | rfl | rfl <;> first | exact HV2x6.out.kids.free (by omega) | exact HV4x6.out.kids.free (by omega) | exact HV6.out.kids.free (by omega)) _ rfl 3 rfl HB7.out); have HV2x7 := hid (HV2x6.out.past (Below.trans ((Below.refl _ _).alloc (Nat.le_refl _) _) (HB7.out.mono (by simp)))); have HV4x7 := hid (HV4x6.out.past (Below.trans ((Below.refl _ _).alloc (Nat.le_refl _) _) (HB7.out.mono (by simp)))); have HV6x7 := hid (HV6.out.past (Below.trans ((Below.refl _ _).alloc (Nat.le_refl _) _) (HB7.out.mono (by simp)))); have HRS7 := hid (HRS6.out.past (Below.trans ((Below.refl _ _).alloc (Nat.le_refl _) _) (HB7.out.mono (by simp)))); have HKA7 := hid (HKA6.out.below (Below.trans ((Below.refl _ _).alloc (Nat.le_refl _) _) (HB7.out.mono (by simp)))); have HR7 := hid ((HRd6.out.alloc _).below HB7.out ((HRd6.out.alloc _).lt)); obtain ⟨⟨u0, u1, u2, u3, u4⟩, u5, u6, u7, u8, u9⟩ := blk5 HRS7.out
    go_wp2_with fail
    refine bodyPost_ret (v := .agg #[.int .i64 11, .int .i64 S.t.pos, .string ⟨#[]⟩, .int .i64 0, .slice (some ⟨W6.heap.size, 0, none⟩) 3 3]) (by simp [results, Try.results45, go_sem, u0, u1, u2, u3, u4]) rfl ?_; exact nres_fin (lo := W0.heap.size) (Sy.nd 11 S.t.pos [y2.1, y4.1, y6.1]) y6.2 HKN7.out HR7.out HKA7.out HX.out (by omega) (by omega) (by omega) _ _ _ _ rfl rfl rfl rfl _ _ _ _ _
   | false =>
    cases h4 : Sy.isA Sy.w_case S with
    | true =>
     go_enter Try.func45, Try.ntmps45
     go_wp2_with fail
     obtain ⟨W0, hW0, HI⟩ := in1 H.out 35; rw [hW0]; have HW0 := hid hW0; clear hW0; have hz0 := HI.out.size; refine (has_no _ b s z S (200 - k) d Sy.w_let HI.out.rd h1).mono ?_; rintro en w' ⟨rfl, rfl⟩
     go_wp2_with fail
     refine (has_no _ b s z S (200 - k) d Sy.w_fn HI.out.rd h2).mono ?_; rintro en w' ⟨rfl, rfl⟩
     go_wp2_with fail
     refine (has_no _ b s z S (200 - k) d Sy.w_if HI.out.rd h3).mono ?_; rintro en w' ⟨rfl, rfl⟩
     go_wp2_with fail
     have HX : Hid (Sy.anyA z N (Sy.exprA z N k) S = ((Sy.casesA z (Sy.exprA z N k) S.t.pos (Sy.nextA z S)).1, (Sy.casesA z (Sy.exprA z N k) S.t.pos (Sy.nextA z S)).2)) := by simp [Hid, Sy.anyA, h1, h2, h3, h4]
     have HMA : Hid (Sy.mu (Sy.nextA z S) < N) := Nat.lt_trans (Sy.mu_is z h4) HM.out; refine (has_yes _ b s z S (200 - k) d Sy.w_case HI.out.rd h4).mono ?_; rintro en w1 ⟨rfl, hr1, hk1⟩; have HR1 := hid hr1; have HK1 := hid hk1; clear hr1 hk1; have HRS1 := hid (HI.out.one.kp HK1.out (by omega)); have HKA1 := hid (HI.out.kp.trans HK1.out); have ht1 := HK1.out.size
     go_wp2_with fail
     refine (cases_m N k hE w1 b s z S.t.pos (Sy.nextA z S) d HR1.out HMA.out).mono ?_; rintro en w2 ⟨a2, l2, c2, rfl, HKd2, HR2, HK2⟩; generalize hy2 : Sy.casesA z (Sy.exprA z N k) S.t.pos (Sy.nextA z S) = y2 at *; have HY2 := hid hy2; clear hy2; have HRS2 := hid (HRS1.out.kp HK2.out (by omega)); have HKA2 := hid (HKA1.out.trans HK2.out); have ht2 := HK2.out.size; obtain ⟨⟨u0, u1, u2, u3, u4⟩, u5, u6, u7, u8, u9⟩ := blk5 HRS2.out
     go_wp2_with fail
     refine bodyPost_ret (v := .agg #[.int .i64 y2.1.kind, .int .i64 y2.1.pos, .string ⟨y2.1.name.toArray⟩, .int .i64 y2.1.num, .slice a2 l2 c2]) (by simp [results, Try.results45, go_sem, u0, u1, u2, u3, u4]) rfl ?_; exact nres_fin (lo := W0.heap.size) y2.1 y2.2 (HKd2.out.weak (fun g hg _ => Nat.le_trans (by omega) hg)) HR2.out HKA2.out HX.out (by omega) (by omega) (by omega) _ _ _ _ rfl rfl rfl rfl _ _ _ _ _
    | false =>
     cases h5 : Sy.isA Sy.w_handle S with
     | true =>
      go_enter Try.func45, Try.ntmps45
      go_wp2_with fail
      obtain ⟨W0, hW0, HI⟩ := in1 H.out 35; rw [hW0]; have HW0 := hid hW0; clear hW0; have hz0 := HI.out.size; refine (has_no _ b s z S (200 - k) d Sy.w_let HI.out.rd h1).mono ?_; rintro en w' ⟨rfl, rfl⟩
      go_wp2_with fail
      refine (has_no _ b s z S (200 - k) d Sy.w_fn HI.out.rd h2).mono ?_; rintro en w' ⟨rfl, rfl⟩
      go_wp2_with fail
      refine (has_no _ b s z S (200 - k) d Sy.w_if HI.out.rd h3).mono ?_; rintro en w' ⟨rfl, rfl⟩
      go_wp2_with fail
      refine (has_no _ b s z S (200 - k) d Sy.w_case HI.out.rd h4).mono ?_; rintro en w' ⟨rfl, rfl⟩
      go_wp2_with fail
      have HX : Hid (Sy.anyA z N (Sy.exprA z N k) S = ((Sy.handleA z N (Sy.exprA z N k) S.t.pos S).1, (Sy.handleA z N (Sy.exprA z N k) S.t.pos S).2)) := by simp [Hid, Sy.anyA, h1, h2, h3, h4, h5]
      refine (is_q _ b s z S (200 - k) d Sy.w_handle HI.out.rd).mono ?_; rintro en w' ⟨rfl, rfl⟩
      go_wp2_with fail
      refine (hH W0 b s z S.t.pos S d HI.out.rd HM.out (.inl h5)).mono ?_; rintro en w1 ⟨a1, l1, c1, rfl, HKd1, HR1, HK1⟩; generalize hy1 : Sy.handleA z N (Sy.exprA z N k) S.t.pos S = y1 at *; have HY1 := hid hy1; clear hy1; have HRS1 := hid (HI.out.one.kp HK1.out (by omega)); have HKA1 := hid (HI.out.kp.trans HK1.out); have ht1 := HK1.out.size; obtain ⟨⟨u0, u1, u2, u3, u4⟩, u5, u6, u7, u8, u9⟩ := blk5 HRS1.out
      go_wp2_with fail
      refine bodyPost_ret (v := .agg #[.int .i64 y1.1.kind, .int .i64 y1.1.pos, .string ⟨y1.1.name.toArray⟩, .int .i64 y1.1.num, .slice a1 l1 c1]) (by simp [results, Try.results45, go_sem, u0, u1, u2, u3, u4]) rfl ?_; exact nres_fin (lo := W0.heap.size) y1.1 y1.2 (HKd1.out.weak (fun g hg _ => Nat.le_trans (by omega) hg)) HR1.out HKA1.out HX.out (by omega) (by omega) (by omega) _ _ _ _ rfl rfl rfl rfl _ _ _ _ _
     | false =>
      cases h6 : Sy.isA Sy.w_shallow S with
      | true =>
       go_enter Try.func45, Try.ntmps45
       go_wp2_with fail
       obtain ⟨W0, hW0, HI⟩ := in1 H.out 35; rw [hW0]; have HW0 := hid hW0; clear hW0; have hz0 := HI.out.size; refine (has_no _ b s z S (200 - k) d Sy.w_let HI.out.rd h1).mono ?_; rintro en w' ⟨rfl, rfl⟩
       go_wp2_with fail
       refine (has_no _ b s z S (200 - k) d Sy.w_fn HI.out.rd h2).mono ?_; rintro en w' ⟨rfl, rfl⟩
       go_wp2_with fail
       refine (has_no _ b s z S (200 - k) d Sy.w_if HI.out.rd h3).mono ?_; rintro en w' ⟨rfl, rfl⟩
       go_wp2_with fail
       refine (has_no _ b s z S (200 - k) d Sy.w_case HI.out.rd h4).mono ?_; rintro en w' ⟨rfl, rfl⟩
       go_wp2_with fail
       have HX : Hid (Sy.anyA z N (Sy.exprA z N k) S = ((Sy.handleA z N (Sy.exprA z N k) S.t.pos S).1, (Sy.handleA z N (Sy.exprA z N k) S.t.pos S).2)) := by simp [Hid, Sy.anyA, h1, h2, h3, h4, h5, h6]
       refine (is_q _ b s z S (200 - k) d Sy.w_handle HI.out.rd).mono ?_; rintro en w' ⟨rfl, rfl⟩
       go_wp2_with fail
       refine (is_q _ b s z S (200 - k) d Sy.w_shallow HI.out.rd).mono ?_; rintro en w' ⟨rfl, rfl⟩
       go_wp2_with fail
       refine (hH W0 b s z S.t.pos S d HI.out.rd HM.out (.inr h6)).mono ?_; rintro en w1 ⟨a1, l1, c1, rfl, HKd1, HR1, HK1⟩; generalize hy1 : Sy.handleA z N (Sy.exprA z N k) S.t.pos S = y1 at *; have HY1 := hid hy1; clear hy1; have HRS1 := hid (HI.out.one.kp HK1.out (by omega)); have HKA1 := hid (HI.out.kp.trans HK1.out); have ht1 := HK1.out.size; obtain ⟨⟨u0, u1, u2, u3, u4⟩, u5, u6, u7, u8, u9⟩ := blk5 HRS1.out
       go_wp2_with fail
       refine bodyPost_ret (v := .agg #[.int .i64 y1.1.kind, .int .i64 y1.1.pos, .string ⟨y1.1.name.toArray⟩, .int .i64 y1.1.num, .slice a1 l1 c1]) (by simp [results, Try.results45, go_sem, u0, u1, u2, u3, u4]) rfl ?_; exact nres_fin (lo := W0.heap.size) y1.1 y1.2 (HKd1.out.weak (fun g hg _ => Nat.le_trans (by omega) hg)) HR1.out HKA1.out HX.out (by omega) (by omega) (by omega) _ _ _ _ rfl rfl rfl rfl _ _ _ _ _
      | false =>
       go_enter Try.func45, Try.ntmps45
       go_wp2_with fail
       obtain ⟨W0, hW0, HI⟩ := in1 H.out 35; rw [hW0]; have HW0 := hid hW0; clear hW0; have hz0 := HI.out.size; refine (has_no _ b s z S (200 - k) d Sy.w_let HI.out.rd h1).mono ?_; rintro en w' ⟨rfl, rfl⟩
       go_wp2_with fail
       refine (has_no _ b s z S (200 - k) d Sy.w_fn HI.out.rd h2).mono ?_; rintro en w' ⟨rfl, rfl⟩
       go_wp2_with fail
       refine (has_no _ b s z S (200 - k) d Sy.w_if HI.out.rd h3).mono ?_; rintro en w' ⟨rfl, rfl⟩
       go_wp2_with fail
       refine (has_no _ b s z S (200 - k) d Sy.w_case HI.out.rd h4).mono ?_; rintro en w' ⟨rfl, rfl⟩
       go_wp2_with fail
       refine (is_q _ b s z S (200 - k) d Sy.w_handle HI.out.rd).mono ?_; rintro en w' ⟨rfl, rfl⟩
       go_wp2_with fail
       refine (is_q _ b s z S (200 - k) d Sy.w_shallow HI.out.rd).mono ?_; rintro en w' ⟨rfl, rfl⟩
       go_wp2_with fail
       refine (comp_m N k hE hS W0 b s z S d HI.out.rd HM.out).mono ?_; rintro en w1 ⟨a1, l1, c1, rfl, HKd1, HR1, HK1⟩; generalize hy1 : Sy.compA z N (Sy.exprA z N k) S = y1 at *; have HY1 := hid hy1; clear hy1; obtain ⟨W1, hW1, HV1, HRd1, HKp1, hs1, ht1⟩ := var_new HKd1.out HR1.out HK1.out 35; have HRS1 := hid (HI.out.one.kp HKp1.out (by omega)); have HKA1 := hid (HI.out.kp.trans HKp1.out); have HMU1 := hid (Sy.mu_comp z N (Sy.mu_expr z N k) S); rw [HY1.out] at HMU1
       cases h7 : Sy.isA Sy.s_semi y1.2 with
       | false =>
        have HX : Hid (Sy.anyA z N (Sy.exprA z N k) S = (y1.1, y1.2)) := by simp [Hid, Sy.anyA, h1, h2, h3, h4, h5, h6, HY1.out, h7]
        go_wp2_with fail
        try rw [hW1]
        clear hW1; refine (has_no _ b s z y1.2 (200 - k) d Sy.s_semi HRd1.out h7).mono ?_; rintro en w' ⟨rfl, rfl⟩; obtain ⟨⟨q1_0, q1_1, q1_2, q1_3, q1_4⟩, q1_5, q1_6, q1_7, q1_8, q1_9⟩ := blk5 HV1.out.cells; obtain ⟨⟨u0, u1, u2, u3, u4⟩, u5, u6, u7, u8, u9⟩ := blk5 HRS1.out
        go_wp2_with fail
        refine bodyPost_ret (v := .agg #[.int .i64 y1.1.kind, .int .i64 y1.1.pos, .string ⟨y1.1.name.toArray⟩, .int .i64 y1.1.num, .slice a1 l1 c1]) (by simp [results, Try.results45, go_sem, u0, u1, u2, u3, u4]) rfl ?_; exact nres_fin (lo := W0.heap.size) y1.1 y1.2 (HV1.out.kids.free (by omega)) HRd1.out HKA1.out HX.out (by omega) (by omega) (by omega) _ _ _ _ rfl rfl rfl rfl _ _ _ _ _
       | true =>
        have HX : Hid (Sy.anyA z N (Sy.exprA z N k) S = (Sy.nd 10 y1.1.pos [y1.1, (Sy.exprA z N k (Sy.nextA z y1.2)).1], (Sy.exprA z N k (Sy.nextA z y1.2)).2)) := by simp [Hid, Sy.anyA, h1, h2, h3, h4, h5, h6, HY1.out, h7]
        have HMA : Hid (Sy.mu (Sy.nextA z y1.2) < N) := by have h8 := Sy.mu_is z h7; have h9 := HMU1.out; have h10 := HM.out; simp only [Hid]; omega
        go_wp2_with fail
        try rw [hW1]
        clear hW1; refine (has_yes _ b s z y1.2 (200 - k) d Sy.s_semi HRd1.out h7).mono ?_; rintro en w2 ⟨rfl, hr2, hk2⟩; have HR2 := hid hr2; have HK2 := hid hk2; clear hr2 hk2; have HV1x2 := hid (HV1.out.kp HK2.out (by omega) (by omega)); have HRS2 := hid (HRS1.out.kp HK2.out (by omega)); have HKA2 := hid (HKA1.out.trans HK2.out); have ht2 := HK2.out.size
        go_wp2_with fail
        refine (hE w2 b s z (Sy.nextA z y1.2) d HR2.out HMA.out).mono ?_; rintro en w3 ⟨a3, l3, c3, rfl, HKd3, HR3, HK3⟩; generalize hy3 : Sy.exprA z N k (Sy.nextA z y1.2) = y3 at *; have HY3 := hid hy3; clear hy3; obtain ⟨W3, hW3, HV3, HRd3, HKp3, hs3, ht3⟩ := var_new HKd3.out HR3.out HK3.out 35; have HV1x3 := hid (HV1x2.out.kp HKp3.out (by omega) (by omega)); have HRS3 := hid (HRS2.out.kp HKp3.out (by omega)); have HKA3 := hid (HKA2.out.trans HKp3.out); obtain ⟨⟨q1_0, q1_1, q1_2, q1_3, q1_4⟩, q1_5, q1_6, q1_7, q1_8, q1_9⟩ := blk5 HV1x3.out.cells; obtain ⟨⟨q3_0, q3_1, q3_2, q3_3, q3_4⟩, q3_5, q3_6, q3_7, q3_8, q3_9⟩ := blk5 HV3.out.cells
        go_wp2_with fail
        try rw [hW3]
        clear hW3; refine (node_m _ _ _ _ _ _).mono ?_; rintro en w4 ⟨rfl, HB4⟩; have HKN4 := hid (kids_new (F := (fun g => W0.heap.size ≤ g)) [(y1.1, .slice a1 l1 c1), (y3.1, .slice a3 l3 c3)] (by simp) (by show W0.heap.size ≤ _; omega) (by intro p hp; simp only [List.mem_cons, or_false, List.not_mem_nil] at hp; rcases hp with rfl | rfl <;> first | exact HV1x3.out.kids.free (by omega) | exact HV3.out.kids.free (by omega)) _ rfl 2 rfl HB4.out); have HV1x4 := hid (HV1x3.out.past (Below.trans ((Below.refl _ _).alloc (Nat.le_refl _) _) (HB4.out.mono (by simp)))); have HV3x4 := hid (HV3.out.past (Below.trans ((Below.refl _ _).alloc (Nat.le_refl _) _) (HB4.out.mono (by simp)))); have HRS4 := hid (HRS3.out.past (Below.trans ((Below.refl _ _).alloc (Nat.le_refl _) _) (HB4.out.mono (by simp)))); have HKA4 := hid (HKA3.out.below (Below.trans ((Below.refl _ _).alloc (Nat.le_refl _) _) (HB4.out.mono (by simp)))); have HR4 := hid ((HRd3.out.alloc _).below HB4.out ((HRd3.out.alloc _).lt)); obtain ⟨⟨u0, u1, u2, u3, u4⟩, u5, u6, u7, u8, u9⟩ := blk5 HRS4.out
        go_wp2_with fail
        refine bodyPost_ret (v := .agg #[.int .i64 10, .int .i64 y1.1.pos, .string ⟨#[]⟩, .int .i64 0, .slice (some ⟨W3.heap.size, 0, none⟩) 2 2]) (by simp [results, Try.results45, go_sem, u0, u1, u2, u3, u4]) rfl ?_; exact nres_fin (lo := W0.heap.size) (Sy.nd 10 y1.1.pos [y1.1, y3.1]) y3.2 HKN4.out HR4.out HKA4.out HX.out (by omega) (by omega) (by omega) _ _ _ _ rfl rfl rfl rfl _ _ _ _ _
end Go.Proofs.Ytejciampbnfbhaa

namespace Go.Proofs.Ytejciampbnfbhaa
open Go.RowKit
theorem Rd.expr {w : World} {b e d : Nat} {s : ByteArray} {z : Sy.Env} {S : Sy.RS} (h : Rd w b s z S e d) (e' : Nat) (v : Int) (hv : v = e') : Rd (w.setCell ⟨b, 8, none⟩ (.int .i64 v)) b s z S e' d := by
 obtain ⟨h1, h2, p, hb, hp, hS⟩ := h
 subst hv
 exact ⟨h1, h2, p, hb.set 8 (by simp [rdVals]) _, hp, hS⟩
theorem Rd.typ {w : World} {b e d : Nat} {s : ByteArray} {z : Sy.Env} {S : Sy.RS} (h : Rd w b s z S e d) (d' : Nat) (v : Int) (hv : v = d') : Rd (w.setCell ⟨b, 9, none⟩ (.int .i64 v)) b s z S e d' := by
 obtain ⟨h1, h2, p, hb, hp, hS⟩ := h
 subst hv
 exact ⟨h1, h2, p, hb.set 9 (by simp [rdVals]) _, hp, hS⟩
theorem expr_bad (N k : Nat) (w : World) (b : Nat) (s : ByteArray) (z : Sy.Env) (S : Sy.RS) (e d : Nat) (h : Rd w b s z S e d) (ho : Sy.okA S = false) :
  Calls Try.prog 23 #[.pointer (some ⟨b, 0, none⟩)] w fun en w' => NRes w b s z (Sy.exprA z N k S) e d en w' := by
 have H := hid h
 have hlt := h.lt
 clear h
 have HX : Hid (Sy.exprA z N k S = (Sy.zT, S)) := by cases k <;> simp [Hid, Sy.exprA, ho]
 go_enter Try.func23, Try.ntmps23
 go_wp2_with fail
 obtain ⟨W0, hW0, HI⟩ := in1 H.out 35
 rw [hW0]
 have HW0 := hid hW0
 clear hW0
 have hz0 := HI.out.size
 refine (ok_q _ b s z S e d HI.out.rd).mono ?_
 rintro en w' ⟨rfl, rfl⟩
 obtain ⟨⟨u0, u1, u2, u3, u4⟩, u5, u6, u7, u8, u9⟩ := blk5 HI.out.one
 go_wp2_with fail
 refine bodyPost_ret (v := .agg #[.int .i64 0, .int .i64 0, .string ⟨#[]⟩, .int .i64 0, .slice none 0 0]) (by simp [results, Try.results23, go_sem, u0, u1, u2, u3, u4]) rfl ?_
 exact nres_fin (lo := W0.heap.size) Sy.zT S .nil HI.out.rd HI.out.kp HX.out (by omega) (by omega) (by omega) _ _ _ _ rfl rfl rfl rfl _ _ _ _ _
theorem expr_deep (N : Nat) (w : World) (b : Nat) (s : ByteArray) (z : Sy.Env) (S : Sy.RS) (d : Nat) (h : Rd w b s z S 200 d) (ho : Sy.okA S = true) :
  Calls Try.prog 23 #[.pointer (some ⟨b, 0, none⟩)] w fun en w' => NRes w b s z (Sy.exprA z N 0 S) 200 d en w' := by
 have H := hid h
 have hlt := h.lt
 clear h
 have HX : Hid (Sy.exprA z N 0 S = (Sy.zT, ⟨S.t, S.rest, (5, S.t.pos)⟩)) := by simp [Hid, Sy.exprA, Sy.deepA, ho]
 go_enter Try.func23, Try.ntmps23
 go_wp2_with fail
 obtain ⟨W0, hW0, HI⟩ := in1 H.out 35
 rw [hW0]
 have HW0 := hid hW0
 clear hW0
 have hz0 := HI.out.size
 refine (ok_q _ b s z S 200 d HI.out.rd).mono ?_
 rintro en w' ⟨rfl, rfl⟩
 obtain ⟨p1, hb1, _⟩ := HI.out.rd.cells
 have c1_2 := (hb1 2 _ rfl).1
 have c1_6 := (hb1 6 _ rfl).1
 have c1_7 := (hb1 7 _ rfl).1
 have c1_8 := (hb1 8 _ rfl).1
 clear hb1
 obtain ⟨p9, hb9, _⟩ := HI.out.rd.cells
 have f6 := (hb9 6 _ rfl).2
 have f7 := (hb9 7 _ rfl).2
 clear hb9
 obtain ⟨⟨u0, u1, u2, u3, u4⟩, u5, u6, u7, u8, u9⟩ := blk5 HI.out.one
 have hne : w.heap.size ≠ b := by omega
 have hne2 : ¬ b = w.heap.size := by omega
 go_wp2_with fail
 refine bodyPost_ret (v := .agg #[.int .i64 0, .int .i64 0, .string ⟨#[]⟩, .int .i64 0, .slice none 0 0]) (by simp [results, Try.results23, go_sem, u0, u1, u2, u3, u4]) rfl ?_
 exact nres_fin (lo := W0.heap.size) Sy.zT ⟨S.t, S.rest, (5, S.t.pos)⟩ .nil (HI.out.rd.fault (by decide) rfl) ((HI.out.kp.set _ _).set _ _) HX.out (by omega) (by omega) (by omega) _ _ _ _ rfl rfl rfl rfl _ _ _ _ _
theorem expr_go (N k : Nat) (hk : k + 1 ≤ 200) (hE : ExprOK N k) (hS : SquareOK N k) (hH : HandleOK N k) (w : World) (b : Nat) (s : ByteArray) (z : Sy.Env) (S : Sy.RS) (d : Nat) (h : Rd w b s z S (200 - (k + 1)) d) (hm : Sy.mu S < N) (ho : Sy.okA S = true) :
  Calls Try.prog 23 #[.pointer (some ⟨b, 0, none⟩)] w fun en w' => NRes w b s z (Sy.exprA z N (k + 1) S) (200 - (k + 1)) d en w' := by
 have H := hid h
 have HM := hid hm
 have hlt := h.lt
 clear h hm
 obtain ⟨ee, hee⟩ : ∃ ee, ee = 200 - (k + 1) := ⟨_, rfl⟩
 have hle : ee < 200 := by omega
 have HEE : Hid (200 - k = ee + 1) := by simp only [Hid]; omega
 rw [← hee] at H ⊢
 have HX : Hid (Sy.exprA z N (k + 1) S = Sy.anyA z N (Sy.exprA z N k) S) := by simp [Hid, Sy.exprA, ho]
 clear hee
 go_enter Try.func23, Try.ntmps23
 go_wp2_with fail
 obtain ⟨W0, hW0, HI⟩ := in1 H.out 35
 rw [hW0]
 have HW0 := hid hW0
 clear hW0
 have hz0 := HI.out.size
 refine (ok_q _ b s z S ee d HI.out.rd).mono ?_
 rintro en w' ⟨rfl, rfl⟩
 obtain ⟨p9, hb9, _⟩ := HI.out.rd.cells
 have c8 := (hb9 8 _ rfl).1
 have f8 := (hb9 8 _ rfl).2
 clear hb9
 go_wp2_with fail
 have HR1 : Hid (Rd (W0.setCell ⟨b, 8, none⟩ (.int .i64 ((ee : Int) + 1))) b s z S (200 - k) d) := by rw [HEE.out]; exact HI.out.rd.expr (ee + 1) _ (by omega)
 have HKS := hid (Kp.set (Kp.refl b W0) 8 (.int .i64 ((ee : Int) + 1)))
 have hs1 : (W0.setCell ⟨b, 8, none⟩ (.int .i64 ((ee : Int) + 1))).heap.size = W0.heap.size := by simp [go_sem]
 have HRS0 := hid (HI.out.one.kp HKS.out (by omega))
 have HKA0 := hid (HI.out.kp.trans HKS.out)
 generalize hW1 : W0.setCell ⟨b, 8, none⟩ (.int .i64 ((ee : Int) + 1)) = W1 at *
 clear hW1
 refine (any_m N k hE hS hH W1 b s z S d HR1.out HM.out).mono ?_
 rintro en w2 ⟨a2, l2, c2, rfl, HKd2, HR2, HK2⟩
 generalize hy2 : Sy.anyA z N (Sy.exprA z N k) S = y2 at *
 have HY2 := hid hy2
 clear hy2
 obtain ⟨W2, hW2, HV2, HRd2, HKp2, hs2, ht2⟩ := var_new HKd2.out HR2.out HK2.out 35
 have HRS2 := hid (HRS0.out.kp HKp2.out (by omega))
 have HKA2 := hid (HKA0.out.trans HKp2.out)
 obtain ⟨⟨q2_0, q2_1, q2_2, q2_3, q2_4⟩, q2_5, q2_6, q2_7, q2_8, q2_9⟩ := blk5 HV2.out.cells
 obtain ⟨⟨u0, u1, u2, u3, u4⟩, u5, u6, u7, u8, u9⟩ := blk5 HRS2.out
 obtain ⟨p9, hb9, _⟩ := HRd2.out.cells
 have d8 := (hb9 8 _ rfl).1
 have g8 := (hb9 8 _ rfl).2
 clear hb9
 rw [HEE.out] at d8
 have hne : w.heap.size ≠ b := by omega
 have hne2 : ¬ b = w.heap.size := by omega
 have hne3 : ¬ b = w2.heap.size := by omega
 have hne4 : w2.heap.size ≠ b := by omega
 go_wp2_with fail
 try rw [hW2]
 clear hW2
 refine bodyPost_ret (v := .agg #[.int .i64 y2.1.kind, .int .i64 y2.1.pos, .string ⟨y2.1.name.toArray⟩, .int .i64 y2.1.num, .slice a2 l2 c2]) (by simp [results, Try.results23, go_sem, u0, u1, u2, u3, u4]) rfl ?_
 exact nres_fin (lo := W0.heap.size) y2.1 y2.2 ((HV2.out.kids.free (hi := W0.heap.size) (by omega)).kp (Kp.set (Kp.refl b _) _ _) (by omega) (Nat.le_refl _)) (HRd2.out.expr ee _ rfl) (HKA2.out.set _ _) HX.out (by omega) (by omega) (by omega) _ _ _ _ rfl rfl rfl rfl _ _ _ _ _
end Go.Proofs.Ytejciampbnfbhaa

namespace Go.Proofs.Ytejciampbnfbhaa
open Go.RowKit
theorem Try.info36 : (Try.prog.info? 35).map (fun i => (i.zero, i.size, i.bytes)) = some (some (.agg #[.int .i64 0, .int .i64 0, .string ⟨#[]⟩, .int .i64 0, .slice none 0 0]), 5, 64) := by kernel_rfl
def Fo (lo : Nat) (v : Value) : Nat → Prop := fun g => lo ≤ g ∧ some g ≠ v.ownBlock
structure RowS (W : World) (lo : Nat) (v : Value) (ls : List (Sy.Tr × Value)) : Prop where
 own : W.ownsRow lo 35 5 v ls.length (rowCells ls)
 kids : ∀ p ∈ ls, Kids W (Fo lo v) p.2 p.1.kids
theorem RowS.nil (W : World) (lo : Nat) : RowS W lo (.slice none 0 0) [] := ⟨World.ownsRow_nil _ _ _ _, fun p hp => by simp at hp⟩
theorem RowS.kp {W W' : World} {lo b : Nat} {v : Value} {ls : List (Sy.Tr × Value)} (h : RowS W lo v ls) (hk : Kp b W W') (hb : b < lo) : RowS W' lo v ls := by
 refine ⟨h.own.kept hk ?_, fun p hp => (h.kids p hp).kpF hk (fun g hg => by have := hg.1; omega)⟩
 cases hv : v.ownBlock with
 | none => exact .inl rfl
 | some g =>
  right
  intro e
  have h1 := (h.own.lt g hv).1
  have h2 := Option.some.inj e
  omega
theorem RowS.past {W W' : World} {lo : Nat} {v : Value} {ls : List (Sy.Tr × Value)} (h : RowS W lo v ls) (hk : Below W.heap.size W W') : RowS W' lo v ls :=
 ⟨own_below' h.own hk, fun p hp => (h.kids p hp).pastF hk⟩
where
 own_below' {w w' : World} {base : Nat} {e : TypeId} {size : Nat} {v : Value} {n : Nat} {xs : List Value} (h : w.ownsRow base e size v n xs) (hb : Below w.heap.size w w') : w'.ownsRow base e size v n xs :=
  h.kept (row := none) ⟨hb.os, hb.tape, hb.output, hb.size, fun k hk _ => hb.block k hk⟩ (by cases hv : v.ownBlock <;> simp)
theorem RowS.alloc {W : World} {lo : Nat} {v : Value} {ls : List (Sy.Tr × Value)} (h : RowS W lo v ls) (o : Obj) : RowS (W.alloc o) lo v ls := h.past ((Below.refl _ _).alloc (Nat.le_refl _) o)
theorem RowS.heap {W W' : World} {lo : Nat} {v : Value} {ls : List (Sy.Tr × Value)} (h : RowS W lo v ls) (_ : W'.heap.size = W.heap.size) (hw : ∀ g, lo ≤ g → W'.heap[g]? = W.heap[g]?) : RowS W' lo v ls := by
 refine ⟨⟨h.own.1, ?_⟩, fun p hp => (h.kids p hp).carry (fun g hg _ => hw g hg.1) (fun _ hg _ => hg)⟩
 rcases h.own.2 with h1 | ⟨g, cap, cur, h1, h2, h3, h4⟩
 ·exact .inl h1
 ·exact .inr ⟨g, cap, cur, h1, h2, by rw [hw g h2]; exact h3, h4⟩
theorem node_one (T : Sy.Tr) (a : Option Addr) (l c : Nat) : ∀ u ∈ nodeCells T (.slice a l c), u.oneCell' = true := by
 intro u hu
 simp [nodeCells] at hu
 rcases hu with rfl | rfl | rfl | rfl | rfl <;> rfl
theorem node_news {w : World} {T : Sy.Tr} {a : Option Addr} {l c : Nat} {H : Nat} {ty : TypeId} (hH : w.heap.size = H) :
  ∀ j u, (nodeCells T (.slice a l c))[j]? = some u → (w.alloc (.cells #[.int .i64 T.kind, .int .i64 T.pos, .string ⟨T.name.toArray⟩, .int .i64 T.num, .slice a l c] ty)).cell? ((⟨H, 0, none⟩ : Addr).add j) = some u := by
 subst hH
 intro j u hj
 have h := (Blk.new w (nodeCells T (.slice a l c)) ty j u hj).1
 have e : (⟨w.heap.size, 0, none⟩ : Addr).add j = ⟨w.heap.size, j, none⟩ := by unfold Addr.add; split <;> simp_all
 rw [e]
 exact h
theorem RowS.app {W W' : World} {lo g cap : Nat} {v : Value} {ls : List (Sy.Tr × Value)} {T : Sy.Tr} {kv : Value} (h : RowS W lo v ls)
  (ho : W'.ownsRow lo 35 5 (.slice (some ⟨g, 0, none⟩) (ls.length + 1) cap) (ls.length + 1) (rowCells ls ++ nodeCells T kv)) (hg : W.grownBy W' v.ownBlock) (hat : v.ownBlock = some g ∨ g = W.heap.size)
  (hk : Kids W (Fo lo v) kv T.kids) : RowS W' lo (.slice (some ⟨g, 0, none⟩) (ls.length + 1) cap) (ls ++ [(T, kv)]) := by
 have hF : ∀ x, Fo lo v x → x < W.heap.size → Fo lo (.slice (some ⟨g, 0, none⟩) (ls.length + 1) cap) x := by
  intro x hx hlt
  refine ⟨hx.1, ?_⟩
  intro e
  have e2 : x = g := by simpa [Value.ownBlock] using e
  subst e2
  rcases hat with h1 | h1
  ·exact hx.2 h1.symm
  ·omega
 refine ⟨?_, ?_⟩
 ·have e1 : rowCells (ls ++ [(T, kv)]) = rowCells ls ++ nodeCells T kv := by simp [rowCells]
  have e2 : (ls ++ [(T, kv)]).length = ls.length + 1 := by simp
  rw [e1, e2]
  exact ho
 ·intro p hp
  rcases List.mem_append.1 hp with hp | hp
  ·exact (h.kids p hp).carry (fun x hx hlt => hg.block x hlt hx.2) hF
  ·simp only [List.mem_singleton] at hp
   subst hp; exact hk.carry (fun x hx hlt => hg.block x hlt hx.2) hF
end Go.Proofs.Ytejciampbnfbhaa
