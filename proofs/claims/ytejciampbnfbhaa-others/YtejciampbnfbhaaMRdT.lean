import Derived.Test.YtejciampbnfbhaaMMu
set_option linter.unusedVariables false
set_option linter.unusedSimpArgs false
set_option maxRecDepth 100000
set_option maxHeartbeats 2000000
namespace Go.Proofs.Ytejciampbnfbhaa
open Go.RowKit
theorem some_start {z : Sy.Env} {N k : Nat} {S : Sy.RS} {y : Sy.Tr × Sy.RS} (h : Sy.tatomA z (Sy.typA z N k) S = y) : Hid (Sy.listsA z N y.1 y.2 = Sy.someA z N (Sy.typA z N k) S) := by rw [Hid, Sy.someA, h]
theorem some_mu {z : Sy.Env} {N k : Nat} {S : Sy.RS} {y : Sy.Tr × Sy.RS} (h : Sy.tatomA z (Sy.typA z N k) S = y) (hm : Sy.mu S < N) : Hid (Sy.mu y.2 < N) := by
 have := Sy.mu_tatom z (Sy.mu_typ z N k) S
 rw [h] at this
 exact Nat.lt_of_le_of_lt this hm
theorem some_m (N k : Nat) (hT : TypOK N k) (w : World) (b : Nat) (s : ByteArray) (z : Sy.Env) (S : Sy.RS) (e : Nat) (h : Rd w b s z S e (200 - k)) (hm : Sy.mu S < N) :
  Calls Try.prog 72 #[.pointer (some ⟨b, 0, none⟩)] w fun en w' => NRes w b s z (Sy.someA z N (Sy.typA z N k) S) e (200 - k) en w' := by
 obtain ⟨p, hb, _⟩ := h.cells
 have H := hid h
 have HM := hid hm
 have hlt := h.lt
 have c2 := (hb 2 _ rfl).1
 clear h hb hm
 cases h1 : Sy.isA Sy.w_int S with
 | true =>
  go_enter Try.func72, Try.ntmps72
  go_wp2_with fail
  obtain ⟨W0, hW0, HI⟩ := in2 H.out 35 35
  rw [hW0]
  have HW0 := hid hW0
  clear hW0
  have hz0 := HI.out.size
  refine (has_yes _ b s z S e _ Sy.w_int HI.out.rd h1).mono ?_
  rintro en w1 ⟨rfl, HR1, HK1⟩
  go_wp2_with fail
  refine (node_m _ _ _ _ _ _).mono ?_
  rintro en w2 ⟨rfl, HB2⟩
  have HA := hid ((HI.out.two.kp HK1.out (by omega)).past HB2.out)
  have HRS := hid ((HI.out.one.kp HK1.out (by omega)).past HB2.out)
  obtain ⟨⟨q0, q1, q2, q3, q4⟩, v0, v1, v2, v3, v4⟩ := blk5 HA.out
  obtain ⟨W3, hW3, HL⟩ := loc_put (w := w) (lo := w.heap.size + 2) HA.out HRS.out (by omega) (by omega) (by omega) (by omega) (HR1.out.below HB2.out HR1.out.lt) (Sy.nd 24 S.t.pos []) (a := none) (l := 0) (c := 0) .nil ((HI.out.kp.trans HK1.out).below HB2.out) 24 S.t.pos 0 ⟨#[]⟩ rfl rfl rfl rfl
  have HW3 := hid hW3
  clear hW3
  go_wp2_with fail
  rw [HW3.out]
  clear q0 q1 q2 q3 q4 v0 v1 v2 v3 v4
  have HT : Hid (Sy.tatomA z (Sy.typA z N k) S = (Sy.nd 24 S.t.pos [], Sy.nextA z S)) := by simp [Hid, Sy.tatomA, h1]
  go_loopg [] N (fun n wr => ∃ x : Sy.Tr × Sy.RS, Hid (Loc w b (w.heap.size + 1) w.heap.size (w.heap.size + 2) s z x e (200 - k) wr) ∧ Hid (Sy.listsA z n x.1 x.2 = Sy.someA z N (Sy.typA z N k) S) ∧ Hid (Sy.mu x.2 < n))
  case atStart => exact ⟨_, HL, some_start HT.out, some_mu HT.out HM.out⟩
  case round =>
   obtain ⟨x, HL, HE, HM⟩ := hrel; obtain ⟨m, hm⟩ : ∃ m, gk = m + 1 := ⟨gk - 1, by have := HM.out; omega⟩; subst hm; obtain ⟨a, l, c, HA, HKd⟩ := HL.out.here; obtain ⟨r0, r1, r2, r3, r4, HRS⟩ := HL.out.res
   cases hl : Sy.isA Sy.w_list x.2 with
   | false =>
    have HX : Hid (Sy.someA z N (Sy.typA z N k) S = x) := by rw [Hid, ← HE.out, Sy.listsA]; simp [hl]
    obtain ⟨⟨q0, q1, q2, q3, q4⟩, v0, v1, v2, v3, v4⟩ := blk5 HA; obtain ⟨⟨u0, u1, u2, u3, u4⟩, y0, y1, y2, y3, y4⟩ := blk5 HRS
    go_wp2_with (go_at_call 21; refine (has_no _ b s z x.2 e _ Sy.w_list HL.out.rd hl).mono ?_; rintro en w' ⟨rfl, rfl⟩)
    refine bodyPost_ret (v := .agg #[.int .i64 x.1.kind, .int .i64 x.1.pos, .string ⟨x.1.name.toArray⟩, .int .i64 x.1.num, .slice a l c]) (by simp [results, Try.results72, go_sem, u0, u1, u2, u3, u4]) rfl ?_; rw [HX.out]; exact Loc.fin HL.out (by omega) (by omega) (by omega) (by omega) HKd _ _ _ _ _
   | true =>
    have HX : Hid (Sy.listsA z m (Sy.nd 27 x.1.pos [x.1]) (Sy.nextA z x.2) = Sy.someA z N (Sy.typA z N k) S) := by rw [Hid, ← HE.out, Sy.listsA]; simp [hl]
    have HMU := hid (Sy.mu_is z hl); have HA' := hid HA; have HRS' := hid HRS; have HKd' := hid HKd; clear HA HRS HKd
    go_wp2_with fail
    refine (has_yes _ b s z x.2 e _ Sy.w_list HL.out.rd hl).mono ?_; rintro en w1 ⟨rfl, HR1, HK1⟩; have HA1 := hid (HA'.out.kp HK1.out (by omega)); obtain ⟨⟨q0, q1, q2, q3, q4⟩, v0, v1, v2, v3, v4⟩ := blk5 HA1.out; have hz1 : w.heap.size + 2 ≤ w1.heap.size := by have := HA1.out.lt; omega
    go_wp2_with fail
    refine (node_m _ _ _ _ _ _).mono ?_; rintro en w2 ⟨rfl, HB2⟩; clear q0 q1 q2 q3 q4 v0 v1 v2 v3 v4; have HAL := hid (Below.alloc (Below.refl w1.heap.size w1) (Nat.le_refl _) (.cells #[.int .i64 x.1.kind, .int .i64 x.1.pos, .string ⟨x.1.name.toArray⟩, .int .i64 x.1.num, .slice a l c] 35)); have HA2 := hid ((HA1.out.past HAL.out).past HB2.out); have HRS2 := hid (((HRS'.out.kp HK1.out (by omega)).past HAL.out).past HB2.out); have HKN := hid (kids_one (lo := w.heap.size + 2) (HKd'.out.kp HK1.out (by omega) (Nat.le_refl _)) hz1 HB2.out); obtain ⟨⟨q0, q1, q2, q3, q4⟩, v0, v1, v2, v3, v4⟩ := blk5 HA2.out; obtain ⟨W4, hW4, HL4⟩ := loc_put (w := w) (lo := w.heap.size + 2) HA2.out HRS2.out (by omega) (by omega) (by omega) (by omega) ((HR1.out.alloc _).below HB2.out (HR1.out.alloc _).lt) (Sy.nd 27 x.1.pos [x.1]) HKN.out (((HL.out.kp.trans HK1.out).alloc _).below HB2.out) 27 x.1.pos 0 ⟨#[]⟩ rfl rfl rfl rfl; have HW4 := hid hW4; clear hW4
    go_wp2_with fail
    rw [HW4.out]
    go_roundg m
    case measure => omega
    case rel => exact ⟨_, HL4, HX, by have h1 := HMU.out; have h2 := HM.out; simp only [Hid]; omega⟩
 | false =>
  cases h2 : Sy.isA Sy.w_bool S with
  | true =>
   go_enter Try.func72, Try.ntmps72
   go_wp2_with fail
   obtain ⟨W0, hW0, HI⟩ := in2 H.out 35 35; rw [hW0]; have HW0 := hid hW0; clear hW0; have hz0 := HI.out.size; refine (has_no _ b s z S e _ Sy.w_int HI.out.rd h1).mono ?_; rintro en w' ⟨rfl, rfl⟩
   go_wp2_with fail
   refine (has_yes _ b s z S e _ Sy.w_bool HI.out.rd h2).mono ?_; rintro en w1 ⟨rfl, HR1, HK1⟩
   go_wp2_with fail
   refine (node_m _ _ _ _ _ _).mono ?_; rintro en w2 ⟨rfl, HB2⟩; have HA := hid ((HI.out.two.kp HK1.out (by omega)).past HB2.out); have HRS := hid ((HI.out.one.kp HK1.out (by omega)).past HB2.out); obtain ⟨⟨q0, q1, q2, q3, q4⟩, v0, v1, v2, v3, v4⟩ := blk5 HA.out; obtain ⟨W3, hW3, HL⟩ := loc_put (w := w) (lo := w.heap.size + 2) HA.out HRS.out (by omega) (by omega) (by omega) (by omega) (HR1.out.below HB2.out HR1.out.lt) (Sy.nd 25 S.t.pos []) (a := none) (l := 0) (c := 0) .nil ((HI.out.kp.trans HK1.out).below HB2.out) 25 S.t.pos 0 ⟨#[]⟩ rfl rfl rfl rfl; have HW3 := hid hW3; clear hW3
   go_wp2_with fail
   rw [HW3.out]; clear q0 q1 q2 q3 q4 v0 v1 v2 v3 v4; have HT : Hid (Sy.tatomA z (Sy.typA z N k) S = (Sy.nd 25 S.t.pos [], Sy.nextA z S)) := by simp [Hid, Sy.tatomA, h1, h2]
   go_loopg [] N (fun n wr => ∃ x : Sy.Tr × Sy.RS, Hid (Loc w b (w.heap.size + 1) w.heap.size (w.heap.size + 2) s z x e (200 - k) wr) ∧ Hid (Sy.listsA z n x.1 x.2 = Sy.someA z N (Sy.typA z N k) S) ∧ Hid (Sy.mu x.2 < n))
   case atStart => exact ⟨_, HL, some_start HT.out, some_mu HT.out HM.out⟩
   case round =>
    obtain ⟨x, HL, HE, HM⟩ := hrel; obtain ⟨m, hm⟩ : ∃ m, gk = m + 1 := ⟨gk - 1, by have := HM.out; omega⟩; subst hm; obtain ⟨a, l, c, HA, HKd⟩ := HL.out.here; obtain ⟨r0, r1, r2, r3, r4, HRS⟩ := HL.out.res
    cases hl : Sy.isA Sy.w_list x.2 with
    | false =>
     have HX : Hid (Sy.someA z N (Sy.typA z N k) S = x) := by rw [Hid, ← HE.out, Sy.listsA]; simp [hl]
     obtain ⟨⟨q0, q1, q2, q3, q4⟩, v0, v1, v2, v3, v4⟩ := blk5 HA; obtain ⟨⟨u0, u1, u2, u3, u4⟩, y0, y1, y2, y3, y4⟩ := blk5 HRS
     go_wp2_with (go_at_call 21; refine (has_no _ b s z x.2 e _ Sy.w_list HL.out.rd hl).mono ?_; rintro en w' ⟨rfl, rfl⟩)
     refine bodyPost_ret (v := .agg #[.int .i64 x.1.kind, .int .i64 x.1.pos, .string ⟨x.1.name.toArray⟩, .int .i64 x.1.num, .slice a l c]) (by simp [results, Try.results72, go_sem, u0, u1, u2, u3, u4]) rfl ?_; rw [HX.out]; exact Loc.fin HL.out (by omega) (by omega) (by omega) (by omega) HKd _ _ _ _ _
    | true =>
     have HX : Hid (Sy.listsA z m (Sy.nd 27 x.1.pos [x.1]) (Sy.nextA z x.2) = Sy.someA z N (Sy.typA z N k) S) := by rw [Hid, ← HE.out, Sy.listsA]; simp [hl]
     have HMU := hid (Sy.mu_is z hl); have HA' := hid HA; have HRS' := hid HRS; have HKd' := hid HKd; clear HA HRS HKd
     go_wp2_with fail
     refine (has_yes _ b s z x.2 e _ Sy.w_list HL.out.rd hl).mono ?_; rintro en w1 ⟨rfl, HR1, HK1⟩; have HA1 := hid (HA'.out.kp HK1.out (by omega)); obtain ⟨⟨q0, q1, q2, q3, q4⟩, v0, v1, v2, v3, v4⟩ := blk5 HA1.out; have hz1 : w.heap.size + 2 ≤ w1.heap.size := by have := HA1.out.lt; omega
     go_wp2_with fail
     refine (node_m _ _ _ _ _ _).mono ?_; rintro en w2 ⟨rfl, HB2⟩; clear q0 q1 q2 q3 q4 v0 v1 v2 v3 v4; have HAL := hid (Below.alloc (Below.refl w1.heap.size w1) (Nat.le_refl _) (.cells #[.int .i64 x.1.kind, .int .i64 x.1.pos, .string ⟨x.1.name.toArray⟩, .int .i64 x.1.num, .slice a l c] 35)); have HA2 := hid ((HA1.out.past HAL.out).past HB2.out); have HRS2 := hid (((HRS'.out.kp HK1.out (by omega)).past HAL.out).past HB2.out); have HKN := hid (kids_one (lo := w.heap.size + 2) (HKd'.out.kp HK1.out (by omega) (Nat.le_refl _)) hz1 HB2.out); obtain ⟨⟨q0, q1, q2, q3, q4⟩, v0, v1, v2, v3, v4⟩ := blk5 HA2.out; obtain ⟨W4, hW4, HL4⟩ := loc_put (w := w) (lo := w.heap.size + 2) HA2.out HRS2.out (by omega) (by omega) (by omega) (by omega) ((HR1.out.alloc _).below HB2.out (HR1.out.alloc _).lt) (Sy.nd 27 x.1.pos [x.1]) HKN.out (((HL.out.kp.trans HK1.out).alloc _).below HB2.out) 27 x.1.pos 0 ⟨#[]⟩ rfl rfl rfl rfl; have HW4 := hid hW4; clear hW4
     go_wp2_with fail
     rw [HW4.out]
     go_roundg m
     case measure => omega
     case rel => exact ⟨_, HL4, HX, by have h1 := HMU.out; have h2 := HM.out; simp only [Hid]; omega⟩
  | false =>
   cases h3 : Sy.isA Sy.w_unit S with
   | true =>
    go_enter Try.func72, Try.ntmps72
    go_wp2_with fail
    obtain ⟨W0, hW0, HI⟩ := in2 H.out 35 35; rw [hW0]; have HW0 := hid hW0; clear hW0; have hz0 := HI.out.size; refine (has_no _ b s z S e _ Sy.w_int HI.out.rd h1).mono ?_; rintro en w' ⟨rfl, rfl⟩
    go_wp2_with fail
    refine (has_no _ b s z S e _ Sy.w_bool HI.out.rd h2).mono ?_; rintro en w' ⟨rfl, rfl⟩
    go_wp2_with fail
    refine (has_yes _ b s z S e _ Sy.w_unit HI.out.rd h3).mono ?_; rintro en w1 ⟨rfl, HR1, HK1⟩
    go_wp2_with fail
    refine (node_m _ _ _ _ _ _).mono ?_; rintro en w2 ⟨rfl, HB2⟩; have HA := hid ((HI.out.two.kp HK1.out (by omega)).past HB2.out); have HRS := hid ((HI.out.one.kp HK1.out (by omega)).past HB2.out); obtain ⟨⟨q0, q1, q2, q3, q4⟩, v0, v1, v2, v3, v4⟩ := blk5 HA.out; obtain ⟨W3, hW3, HL⟩ := loc_put (w := w) (lo := w.heap.size + 2) HA.out HRS.out (by omega) (by omega) (by omega) (by omega) (HR1.out.below HB2.out HR1.out.lt) (Sy.nd 26 S.t.pos []) (a := none) (l := 0) (c := 0) .nil ((HI.out.kp.trans HK1.out).below HB2.out) 26 S.t.pos 0 ⟨#[]⟩ rfl rfl rfl rfl; have HW3 := hid hW3; clear hW3
    go_wp2_with fail
    rw [HW3.out]; clear q0 q1 q2 q3 q4 v0 v1 v2 v3 v4; have HT : Hid (Sy.tatomA z (Sy.typA z N k) S = (Sy.nd 26 S.t.pos [], Sy.nextA z S)) := by simp [Hid, Sy.tatomA, h1, h2, h3]
    go_loopg [] N (fun n wr => ∃ x : Sy.Tr × Sy.RS, Hid (Loc w b (w.heap.size + 1) w.heap.size (w.heap.size + 2) s z x e (200 - k) wr) ∧ Hid (Sy.listsA z n x.1 x.2 = Sy.someA z N (Sy.typA z N k) S) ∧ Hid (Sy.mu x.2 < n))
    case atStart => exact ⟨_, HL, some_start HT.out, some_mu HT.out HM.out⟩
    case round =>
     obtain ⟨x, HL, HE, HM⟩ := hrel; obtain ⟨m, hm⟩ : ∃ m, gk = m + 1 := ⟨gk - 1, by have := HM.out; omega⟩; subst hm; obtain ⟨a, l, c, HA, HKd⟩ := HL.out.here; obtain ⟨r0, r1, r2, r3, r4, HRS⟩ := HL.out.res
     cases hl : Sy.isA Sy.w_list x.2 with
     | false =>
      have HX : Hid (Sy.someA z N (Sy.typA z N k) S = x) := by rw [Hid, ← HE.out, Sy.listsA]; simp [hl]
      obtain ⟨⟨q0, q1, q2, q3, q4⟩, v0, v1, v2, v3, v4⟩ := blk5 HA; obtain ⟨⟨u0, u1, u2, u3, u4⟩, y0, y1, y2, y3, y4⟩ := blk5 HRS
      go_wp2_with (go_at_call 21; refine (has_no _ b s z x.2 e _ Sy.w_list HL.out.rd hl).mono ?_; rintro en w' ⟨rfl, rfl⟩)
      refine bodyPost_ret (v := .agg #[.int .i64 x.1.kind, .int .i64 x.1.pos, .string ⟨x.1.name.toArray⟩, .int .i64 x.1.num, .slice a l c]) (by simp [results, Try.results72, go_sem, u0, u1, u2, u3, u4]) rfl ?_; rw [HX.out]; exact Loc.fin HL.out (by omega) (by omega) (by omega) (by omega) HKd _ _ _ _ _
     | true =>
      have HX : Hid (Sy.listsA z m (Sy.nd 27 x.1.pos [x.1]) (Sy.nextA z x.2) = Sy.someA z N (Sy.typA z N k) S) := by rw [Hid, ← HE.out, Sy.listsA]; simp [hl]
      have HMU := hid (Sy.mu_is z hl); have HA' := hid HA; have HRS' := hid HRS; have HKd' := hid HKd; clear HA HRS HKd
      go_wp2_with fail
      refine (has_yes _ b s z x.2 e _ Sy.w_list HL.out.rd hl).mono ?_; rintro en w1 ⟨rfl, HR1, HK1⟩; have HA1 := hid (HA'.out.kp HK1.out (by omega)); obtain ⟨⟨q0, q1, q2, q3, q4⟩, v0, v1, v2, v3, v4⟩ := blk5 HA1.out; have hz1 : w.heap.size + 2 ≤ w1.heap.size := by have := HA1.out.lt; omega
      go_wp2_with fail
      refine (node_m _ _ _ _ _ _).mono ?_; rintro en w2 ⟨rfl, HB2⟩; clear q0 q1 q2 q3 q4 v0 v1 v2 v3 v4; have HAL := hid (Below.alloc (Below.refl w1.heap.size w1) (Nat.le_refl _) (.cells #[.int .i64 x.1.kind, .int .i64 x.1.pos, .string ⟨x.1.name.toArray⟩, .int .i64 x.1.num, .slice a l c] 35)); have HA2 := hid ((HA1.out.past HAL.out).past HB2.out); have HRS2 := hid (((HRS'.out.kp HK1.out (by omega)).past HAL.out).past HB2.out); have HKN := hid (kids_one (lo := w.heap.size + 2) (HKd'.out.kp HK1.out (by omega) (Nat.le_refl _)) hz1 HB2.out); obtain ⟨⟨q0, q1, q2, q3, q4⟩, v0, v1, v2, v3, v4⟩ := blk5 HA2.out; obtain ⟨W4, hW4, HL4⟩ := loc_put (w := w) (lo := w.heap.size + 2) HA2.out HRS2.out (by omega) (by omega) (by omega) (by omega) ((HR1.out.alloc _).below HB2.out (HR1.out.alloc _).lt) (Sy.nd 27 x.1.pos [x.1]) HKN.out (((HL.out.kp.trans HK1.out).alloc _).below HB2.out) 27 x.1.pos 0 ⟨#[]⟩ rfl rfl rfl rfl; have HW4 := hid hW4; clear hW4
      go_wp2_with fail
      rw [HW4.out]
      go_roundg m
      case measure => omega
      case rel => exact ⟨_, HL4, HX, by have h1 := HMU.out; have h2 := HM.out; simp only [Hid]; omega⟩
   | false =>
    cases h4 : Sy.isA Sy.s_lp S with
    | true =>
     go_enter Try.func72, Try.ntmps72
     go_wp2_with fail
     obtain ⟨W0, hW0, HI⟩ := in2 H.out 35 35; rw [hW0]; have HW0 := hid hW0; clear hW0; have hz0 := HI.out.size; refine (has_no _ b s z S e _ Sy.w_int HI.out.rd h1).mono ?_; rintro en w' ⟨rfl, rfl⟩
     go_wp2_with fail
     refine (has_no _ b s z S e _ Sy.w_bool HI.out.rd h2).mono ?_; rintro en w' ⟨rfl, rfl⟩
     go_wp2_with fail
     refine (has_no _ b s z S e _ Sy.w_unit HI.out.rd h3).mono ?_; rintro en w' ⟨rfl, rfl⟩
     go_wp2_with fail
     refine (has_yes _ b s z S e _ Sy.s_lp HI.out.rd h4).mono ?_; rintro en w1 ⟨rfl, HR1, HK1⟩
     go_wp2_with fail
     refine (hT w1 b s z (Sy.nextA z S) e HR1.out (Nat.lt_trans (Sy.mu_is z h4) HM.out)).mono ?_; rintro en w2 ⟨a, l, c, rfl, HKd, HR2, HK2⟩; have HKT := hid (HK1.out.trans HK2.out); have HA := hid (HI.out.two.kp HKT.out (by omega)); have HRS := hid (HI.out.one.kp HKT.out (by omega)); have hz2 : w.heap.size + 2 ≤ w1.heap.size := by have := HK1.out.size; omega
     obtain ⟨⟨q0, q1, q2, q3, q4⟩, v0, v1, v2, v3, v4⟩ := blk5 HA.out; obtain ⟨W3, hW3, HL⟩ := loc_put (w := w) (lo := w.heap.size + 2) HA.out HRS.out (by omega) (by omega) (by omega) (by omega) HR2.out (Sy.typA z N k (Sy.nextA z S)).1 (HKd.out.kp (Kp.refl b _) (Nat.lt_of_lt_of_le hlt (by omega)) hz2) (HI.out.kp.trans HKT.out) _ _ _ _ rfl rfl rfl rfl; have HW3 := hid hW3; clear hW3
     go_wp2_with fail
     rw [HW3.out]; clear q0 q1 q2 q3 q4 v0 v1 v2 v3 v4; refine (must_m _ b s z _ e _ Sy.s_rp HL.out.rd).mono ?_; rintro en w4 ⟨rfl, hr4, hk4⟩; have HL0 := hid (HL.out.step hr4 hk4 (by omega) (by omega) (by omega)); clear hr4 hk4 HL; have HL := HL0; have HT : Hid (Sy.tatomA z (Sy.typA z N k) S = ((Sy.typA z N k (Sy.nextA z S)).1, Sy.mustA z Sy.s_rp (Sy.typA z N k (Sy.nextA z S)).2)) := by simp [Hid, Sy.tatomA, h1, h2, h3, h4]
     go_wp2_with fail
     go_loopg [] N (fun n wr => ∃ x : Sy.Tr × Sy.RS, Hid (Loc w b (w.heap.size + 1) w.heap.size (w.heap.size + 2) s z x e (200 - k) wr) ∧ Hid (Sy.listsA z n x.1 x.2 = Sy.someA z N (Sy.typA z N k) S) ∧ Hid (Sy.mu x.2 < n))
     case atStart => exact ⟨_, HL, some_start HT.out, some_mu HT.out HM.out⟩
     case round =>
      obtain ⟨x, HL, HE, HM⟩ := hrel; obtain ⟨m, hm⟩ : ∃ m, gk = m + 1 := ⟨gk - 1, by have := HM.out; omega⟩; subst hm; obtain ⟨a, l, c, HA, HKd⟩ := HL.out.here; obtain ⟨r0, r1, r2, r3, r4, HRS⟩ := HL.out.res
      cases hl : Sy.isA Sy.w_list x.2 with
      | false =>
       have HX : Hid (Sy.someA z N (Sy.typA z N k) S = x) := by rw [Hid, ← HE.out, Sy.listsA]; simp [hl]
       obtain ⟨⟨q0, q1, q2, q3, q4⟩, v0, v1, v2, v3, v4⟩ := blk5 HA; obtain ⟨⟨u0, u1, u2, u3, u4⟩, y0, y1, y2, y3, y4⟩ := blk5 HRS
       go_wp2_with (go_at_call 21; refine (has_no _ b s z x.2 e _ Sy.w_list HL.out.rd hl).mono ?_; rintro en w' ⟨rfl, rfl⟩)
       refine bodyPost_ret (v := .agg #[.int .i64 x.1.kind, .int .i64 x.1.pos, .string ⟨x.1.name.toArray⟩, .int .i64 x.1.num, .slice a l c]) (by simp [results, Try.results72, go_sem, u0, u1, u2, u3, u4]) rfl ?_; rw [HX.out]; exact Loc.fin HL.out (by omega) (by omega) (by omega) (by omega) HKd _ _ _ _ _
      | true =>
       have HX : Hid (Sy.listsA z m (Sy.nd 27 x.1.pos [x.1]) (Sy.nextA z x.2) = Sy.someA z N (Sy.typA z N k) S) := by rw [Hid, ← HE.out, Sy.listsA]; simp [hl]
       have HMU := hid (Sy.mu_is z hl); have HA' := hid HA; have HRS' := hid HRS; have HKd' := hid HKd; clear HA HRS HKd
       go_wp2_with fail
       refine (has_yes _ b s z x.2 e _ Sy.w_list HL.out.rd hl).mono ?_; rintro en w1 ⟨rfl, HR1, HK1⟩; have HA1 := hid (HA'.out.kp HK1.out (by omega)); obtain ⟨⟨q0, q1, q2, q3, q4⟩, v0, v1, v2, v3, v4⟩ := blk5 HA1.out; have hz1 : w.heap.size + 2 ≤ w1.heap.size := by have := HA1.out.lt; omega
       go_wp2_with fail
       refine (node_m _ _ _ _ _ _).mono ?_; rintro en w2 ⟨rfl, HB2⟩; clear q0 q1 q2 q3 q4 v0 v1 v2 v3 v4; have HAL := hid (Below.alloc (Below.refl w1.heap.size w1) (Nat.le_refl _) (.cells #[.int .i64 x.1.kind, .int .i64 x.1.pos, .string ⟨x.1.name.toArray⟩, .int .i64 x.1.num, .slice a l c] 35)); have HA2 := hid ((HA1.out.past HAL.out).past HB2.out); have HRS2 := hid (((HRS'.out.kp HK1.out (by omega)).past HAL.out).past HB2.out); have HKN := hid (kids_one (lo := w.heap.size + 2) (HKd'.out.kp HK1.out (by omega) (Nat.le_refl _)) hz1 HB2.out); obtain ⟨⟨q0, q1, q2, q3, q4⟩, v0, v1, v2, v3, v4⟩ := blk5 HA2.out; obtain ⟨W4, hW4, HL4⟩ := loc_put (w := w) (lo := w.heap.size + 2) HA2.out HRS2.out (by omega) (by omega) (by omega) (by omega) ((HR1.out.alloc _).below HB2.out (HR1.out.alloc _).lt) (Sy.nd 27 x.1.pos [x.1]) HKN.out (((HL.out.kp.trans HK1.out).alloc _).below HB2.out) 27 x.1.pos 0 ⟨#[]⟩ rfl rfl rfl rfl; have HW4 := hid hW4; clear hW4
       go_wp2_with fail
       rw [HW4.out]
       go_roundg m
       case measure => omega
       case rel => exact ⟨_, HL4, HX, by have h1 := HMU.out; have h2 := HM.out; simp only [Hid]; omega⟩
    | false =>
     go_enter Try.func72, Try.ntmps72
     go_wp2_with fail
     obtain ⟨W0, hW0, HI⟩ := in2 H.out 35 35; rw [hW0]; have HW0 := hid hW0; clear hW0; have hz0 := HI.out.size; refine (has_no _ b s z S e _ Sy.w_int HI.out.rd h1).mono ?_; rintro en w' ⟨rfl, rfl⟩
     go_wp2_with fail
     refine (has_no _ b s z S e _ Sy.w_bool HI.out.rd h2).mono ?_; rintro en w' ⟨rfl, rfl⟩
     go_wp2_with fail
     refine (has_no _ b s z S e _ Sy.w_unit HI.out.rd h3).mono ?_; rintro en w' ⟨rfl, rfl⟩
     go_wp2_with fail
     refine (has_no _ b s z S e _ Sy.s_lp HI.out.rd h4).mono ?_; rintro en w' ⟨rfl, rfl⟩
     go_wp2_with fail
     refine (no_m _ b s z _ e _ HI.out.rd).mono ?_; rintro en w1 ⟨rfl, hr1, hk1⟩
     have HL : Hid (Loc w b (w.heap.size + 1) w.heap.size (w.heap.size + 2) s z (Sy.zT, Sy.noA S) e (200 - k) w1) :=
      ⟨⟨none, 0, 0, HI.out.two.kp hk1 (by omega), .nil⟩, ⟨_, _, _, _, _, HI.out.one.kp hk1 (by omega)⟩, hr1, HI.out.kp.trans hk1⟩
     clear hr1 hk1; have HT : Hid (Sy.tatomA z (Sy.typA z N k) S = (Sy.zT, Sy.noA S)) := by simp [Hid, Sy.tatomA, h1, h2, h3, h4]
     go_wp2_with fail
     go_loopg [] N (fun n wr => ∃ x : Sy.Tr × Sy.RS, Hid (Loc w b (w.heap.size + 1) w.heap.size (w.heap.size + 2) s z x e (200 - k) wr) ∧ Hid (Sy.listsA z n x.1 x.2 = Sy.someA z N (Sy.typA z N k) S) ∧ Hid (Sy.mu x.2 < n))
     case atStart => exact ⟨_, HL, some_start HT.out, some_mu HT.out HM.out⟩
     case round =>
      obtain ⟨x, HL, HE, HM⟩ := hrel; obtain ⟨m, hm⟩ : ∃ m, gk = m + 1 := ⟨gk - 1, by have := HM.out; omega⟩; subst hm; obtain ⟨a, l, c, HA, HKd⟩ := HL.out.here; obtain ⟨r0, r1, r2, r3, r4, HRS⟩ := HL.out.res
      cases hl : Sy.isA Sy.w_list x.2 with
      | false =>
       have HX : Hid (Sy.someA z N (Sy.typA z N k) S = x) := by rw [Hid, ← HE.out, Sy.listsA]; simp [hl]
       obtain ⟨⟨q0, q1, q2, q3, q4⟩, v0, v1, v2, v3, v4⟩ := blk5 HA; obtain ⟨⟨u0, u1, u2, u3, u4⟩, y0, y1, y2, y3, y4⟩ := blk5 HRS
       go_wp2_with (go_at_call 21; refine (has_no _ b s z x.2 e _ Sy.w_list HL.out.rd hl).mono ?_; rintro en w' ⟨rfl, rfl⟩)
       refine bodyPost_ret (v := .agg #[.int .i64 x.1.kind, .int .i64 x.1.pos, .string ⟨x.1.name.toArray⟩, .int .i64 x.1.num, .slice a l c]) (by simp [results, Try.results72, go_sem, u0, u1, u2, u3, u4]) rfl ?_; rw [HX.out]; exact Loc.fin HL.out (by omega) (by omega) (by omega) (by omega) HKd _ _ _ _ _
      | true =>
       have HX : Hid (Sy.listsA z m (Sy.nd 27 x.1.pos [x.1]) (Sy.nextA z x.2) = Sy.someA z N (Sy.typA z N k) S) := by rw [Hid, ← HE.out, Sy.listsA]; simp [hl]
       have HMU := hid (Sy.mu_is z hl); have HA' := hid HA; have HRS' := hid HRS; have HKd' := hid HKd; clear HA HRS HKd
       go_wp2_with fail
       refine (has_yes _ b s z x.2 e _ Sy.w_list HL.out.rd hl).mono ?_; rintro en w1 ⟨rfl, HR1, HK1⟩; have HA1 := hid (HA'.out.kp HK1.out (by omega)); obtain ⟨⟨q0, q1, q2, q3, q4⟩, v0, v1, v2, v3, v4⟩ := blk5 HA1.out; have hz1 : w.heap.size + 2 ≤ w1.heap.size := by have := HA1.out.lt; omega
       go_wp2_with fail
       refine (node_m _ _ _ _ _ _).mono ?_; rintro en w2 ⟨rfl, HB2⟩; clear q0 q1 q2 q3 q4 v0 v1 v2 v3 v4; have HAL := hid (Below.alloc (Below.refl w1.heap.size w1) (Nat.le_refl _) (.cells #[.int .i64 x.1.kind, .int .i64 x.1.pos, .string ⟨x.1.name.toArray⟩, .int .i64 x.1.num, .slice a l c] 35)); have HA2 := hid ((HA1.out.past HAL.out).past HB2.out); have HRS2 := hid (((HRS'.out.kp HK1.out (by omega)).past HAL.out).past HB2.out); have HKN := hid (kids_one (lo := w.heap.size + 2) (HKd'.out.kp HK1.out (by omega) (Nat.le_refl _)) hz1 HB2.out); obtain ⟨⟨q0, q1, q2, q3, q4⟩, v0, v1, v2, v3, v4⟩ := blk5 HA2.out; obtain ⟨W4, hW4, HL4⟩ := loc_put (w := w) (lo := w.heap.size + 2) HA2.out HRS2.out (by omega) (by omega) (by omega) (by omega) ((HR1.out.alloc _).below HB2.out (HR1.out.alloc _).lt) (Sy.nd 27 x.1.pos [x.1]) HKN.out (((HL.out.kp.trans HK1.out).alloc _).below HB2.out) 27 x.1.pos 0 ⟨#[]⟩ rfl rfl rfl rfl; have HW4 := hid hW4; clear hW4
       go_wp2_with fail
       rw [HW4.out]
       go_roundg m
       case measure => omega
       case rel => exact ⟨_, HL4, HX, by have h1 := HMU.out; have h2 := HM.out; simp only [Hid]; omega⟩
end Go.Proofs.Ytejciampbnfbhaa

namespace Go.Proofs.Ytejciampbnfbhaa
open Go.RowKit
theorem pair_m (N k : Nat) (hT : TypOK N k) : ∀ (n : Nat) (w : World) (b : Nat) (s : ByteArray) (z : Sy.Env) (S : Sy.RS) (e : Nat), Rd w b s z S e (200 - k) → Sy.mu S < N → Sy.mu S < n →
  Calls Try.prog 43 #[.pointer (some ⟨b, 0, none⟩)] w fun en w' => NRes w b s z (Sy.pairA z N (Sy.typA z N k) n S) e (200 - k) en w' := by
 intro n
 induction n with
 | zero => intro w b s z S e _ _ h; omega
 | succ n ih =>
  intro w b s z S e h hm hn
  have IH := hid ih
  have H := hid h
  have HM := hid hm
  have HN := hid hn
  have hlt := h.lt
  have HMU1 := hid (Sy.mu_some z N (Sy.mu_typ z N k) S)
  clear h hm hn ih
  go_enter Try.func43, Try.ntmps43
  go_wp2_with fail
  obtain ⟨W0, hW0, HI⟩ := in1 H.out 35
  rw [hW0]
  have HW0 := hid hW0
  clear hW0
  have hz0 := HI.out.size
  refine (some_m N k hT W0 b s z S e HI.out.rd HM.out).mono ?_
  rintro en w1 ⟨a1, l1, c1, rfl, HKd1, HR1, HK1⟩
  generalize hy1 : Sy.someA z N (Sy.typA z N k) S = y1 at *
  have HY1 := hid hy1
  clear hy1
  obtain ⟨W1, hW1, HV1, HRd1, HKp1, hs1, ht1⟩ := var_new HKd1.out HR1.out HK1.out 35
  have HRS1 := hid (HI.out.one.kp HKp1.out (by omega))
  have HKA1 := hid (HI.out.kp.trans HKp1.out)
  cases h1 : Sy.isA Sy.s_star y1.2 with
  | false =>
   have HX : Hid (Sy.pairA z N (Sy.typA z N k) (n + 1) S = (y1.1, y1.2)) := by rw [Hid, Sy.pairA, HY1.out]; simp [h1]
   go_wp2_with fail
   try rw [hW1]
   clear hW1; refine (has_no _ b s z y1.2 e (200 - k) Sy.s_star HRd1.out h1).mono ?_; rintro en w' ⟨rfl, rfl⟩; obtain ⟨⟨q1_0, q1_1, q1_2, q1_3, q1_4⟩, q1_5, q1_6, q1_7, q1_8, q1_9⟩ := blk5 HV1.out.cells; obtain ⟨⟨u0, u1, u2, u3, u4⟩, u5, u6, u7, u8, u9⟩ := blk5 HRS1.out
   go_wp2_with fail
   refine bodyPost_ret (v := .agg #[.int .i64 y1.1.kind, .int .i64 y1.1.pos, .string ⟨y1.1.name.toArray⟩, .int .i64 y1.1.num, .slice a1 l1 c1]) (by simp [results, Try.results43, go_sem, u0, u1, u2, u3, u4]) rfl ?_; exact nres_fin (lo := W0.heap.size) y1.1 y1.2 (HV1.out.kids.free (Nat.le_refl _)) HRd1.out HKA1.out HX.out (by omega) (by omega) (by omega) _ _ _ _ rfl rfl rfl rfl _ _ _ _ _
  | true =>
   have HX : Hid (Sy.pairA z N (Sy.typA z N k) (n + 1) S = (Sy.nd 28 y1.1.pos [y1.1, (Sy.pairA z N (Sy.typA z N k) n (Sy.nextA z y1.2)).1], (Sy.pairA z N (Sy.typA z N k) n (Sy.nextA z y1.2)).2)) := by rw [Hid, Sy.pairA, HY1.out]; simp [h1]
   have HMU := hid (Sy.mu_is z h1); have HMA : Hid (Sy.mu (Sy.nextA z y1.2) < N) := by have h1 := HMU.out; have h2 := HMU1.out; have h3 := HM.out; simp only [Hid]; omega
   have HMB : Hid (Sy.mu (Sy.nextA z y1.2) < n) := by have h1 := HMU.out; have h2 := HMU1.out; have h3 := HN.out; simp only [Hid]; omega
   go_wp2_with fail
   try rw [hW1]
   clear hW1; refine (has_yes _ b s z y1.2 e (200 - k) Sy.s_star HRd1.out h1).mono ?_; rintro en w2 ⟨rfl, hr2, hk2⟩; have HR2 := hid hr2; have HK2 := hid hk2; clear hr2 hk2; have HV1x2 := hid (HV1.out.kp HK2.out (by omega) (by omega)); have HRS2 := hid (HRS1.out.kp HK2.out (by omega)); have HKA2 := hid (HKA1.out.trans HK2.out); have ht2 := HK2.out.size
   go_wp2_with fail
   refine (IH.out w2 b s z (Sy.nextA z y1.2) e HR2.out HMA.out HMB.out).mono ?_; rintro en w3 ⟨a3, l3, c3, rfl, HKd3, HR3, HK3⟩; generalize hy3 : Sy.pairA z N (Sy.typA z N k) n (Sy.nextA z y1.2) = y3 at *; have HY3 := hid hy3; clear hy3; obtain ⟨W3, hW3, HV3, HRd3, HKp3, hs3, ht3⟩ := var_new HKd3.out HR3.out HK3.out 35; have HV1x3 := hid (HV1x2.out.kp HKp3.out (by omega) (by omega)); have HRS3 := hid (HRS2.out.kp HKp3.out (by omega)); have HKA3 := hid (HKA2.out.trans HKp3.out); obtain ⟨⟨q1_0, q1_1, q1_2, q1_3, q1_4⟩, q1_5, q1_6, q1_7, q1_8, q1_9⟩ := blk5 HV1x3.out.cells; obtain ⟨⟨q3_0, q3_1, q3_2, q3_3, q3_4⟩, q3_5, q3_6, q3_7, q3_8, q3_9⟩ := blk5 HV3.out.cells
   go_wp2_with fail
   try rw [hW3]
   clear hW3; refine (node_m _ _ _ _ _ _).mono ?_; rintro en w4 ⟨rfl, HB4⟩; have HKN4 := hid (kids_new (F := (fun g => W0.heap.size ≤ g)) [(y1.1, .slice a1 l1 c1), (y3.1, .slice a3 l3 c3)] (by simp) (by show W0.heap.size ≤ _; omega) (by intro p hp; simp only [List.mem_cons, or_false, List.not_mem_nil] at hp; rcases hp with rfl | rfl <;> first | exact HV1x3.out.kids.free (by omega) | exact HV3.out.kids.free (by omega)) _ rfl 2 rfl HB4.out); have HV1x4 := hid (HV1x3.out.past (Below.trans ((Below.refl _ _).alloc (Nat.le_refl _) _) (HB4.out.mono (by simp)))); have HV3x4 := hid (HV3.out.past (Below.trans ((Below.refl _ _).alloc (Nat.le_refl _) _) (HB4.out.mono (by simp)))); have HRS4 := hid (HRS3.out.past (Below.trans ((Below.refl _ _).alloc (Nat.le_refl _) _) (HB4.out.mono (by simp)))); have HKA4 := hid (HKA3.out.below (Below.trans ((Below.refl _ _).alloc (Nat.le_refl _) _) (HB4.out.mono (by simp)))); have HR4 := hid ((HRd3.out.alloc _).below HB4.out ((HRd3.out.alloc _).lt)); obtain ⟨⟨u0, u1, u2, u3, u4⟩, u5, u6, u7, u8, u9⟩ := blk5 HRS4.out
   go_wp2_with fail
   refine bodyPost_ret (v := .agg #[.int .i64 28, .int .i64 y1.1.pos, .string ⟨#[]⟩, .int .i64 0, .slice (some ⟨W3.heap.size, 0, none⟩) 2 2]) (by simp [results, Try.results43, go_sem, u0, u1, u2, u3, u4]) rfl ?_; exact nres_fin (lo := W0.heap.size) (Sy.nd 28 y1.1.pos [y1.1, y3.1]) y3.2 HKN4.out HR4.out HKA4.out HX.out (by omega) (by omega) (by omega) _ _ _ _ rfl rfl rfl rfl _ _ _ _ _
end Go.Proofs.Ytejciampbnfbhaa
