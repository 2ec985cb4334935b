import Derived.Test.YtejciampbnfbhaaMMu2
set_option linter.unusedVariables false
set_option linter.unusedSimpArgs false
set_option maxRecDepth 100000
set_option maxHeartbeats 4000000
namespace Go.Proofs.Ytejciampbnfbhaa
open Go.RowKit
theorem begins_m (w : World) (b : Nat) (s : ByteArray) (z : Sy.Env) (S : Sy.RS) (e d : Nat) (h : Rd w b s z S e d) :
  Calls Try.prog 98 #[.pointer (some ⟨b, 0, none⟩)] w fun en w' => en = .returned (.bool (Sy.beginsA S)) ∧ w = w' := by
 obtain ⟨p, hb, _⟩ := h.cells
 have H := hid h
 have c1 := (hb 1 _ rfl).1
 clear h hb
 cases ho : Sy.okA S with
 | false =>
  go_enter Try.func98, Try.ntmps98
  go_wp2_with (go_at_call 11; refine (ok_q _ b s z S e d H.out).mono ?_; rintro en w' ⟨rfl, rfl⟩)
  go_ret
  exact ⟨ret_bool (by simp [Sy.beginsA, ho]), rfl⟩
 | true =>
  by_cases hk2 : S.t.kind = 2
  ·have hk2' : ((S.t.kind : Int) == 2) = true := by simp [hk2]
   have HK := hid hk2; clear hk2
   go_enter Try.func98, Try.ntmps98
   go_wp2_with (go_at_call 11; refine (ok_q _ b s z S e d H.out).mono ?_; rintro en w' ⟨rfl, rfl⟩)
   go_ret
   exact ⟨ret_bool (by simp [Sy.beginsA, ho, HK.out]), rfl⟩
  ·have hk2' : ((S.t.kind : Int) == 2) = false := by simp; omega
   by_cases hk1 : S.t.kind = 1
   ·have hk1' : ((S.t.kind : Int) == 1) = true := by simp [hk1]
    have HK := hid hk1; clear hk1 hk2
    go_enter Try.func98, Try.ntmps98
    go_wp2_with (go_at_call 11; refine (ok_q _ b s z S e d H.out).mono ?_; rintro en w' ⟨rfl, rfl⟩)
    go_ret
    exact ⟨ret_bool (by simp [Sy.beginsA, ho, HK.out]), rfl⟩
   ·have hk1' : ((S.t.kind : Int) == 1) = false := by simp; omega
    have HK1 := hid hk1; have HK2 := hid hk2; have e1 : (S.t.kind == 1) = false := by simp [hk1]
    have e2 : (S.t.kind == 2) = false := by simp [hk2]
    have HB : Hid (Sy.beginsA S = (Sy.isA Sy.s_tilde S || Sy.isA Sy.w_true S || Sy.isA Sy.w_false S || Sy.isA Sy.s_lp S || Sy.isA Sy.s_ls S)) := by simp only [Hid, Sy.beginsA, ho, e1, e2, Bool.false_or, Bool.true_and]
    clear hk1 hk2 e1 e2
    cases h1 : Sy.isA Sy.s_tilde S with
    | true =>
     go_enter Try.func98, Try.ntmps98
     go_wp2_with fail
     refine (ok_q _ b s z S e d H.out).mono ?_; rintro en w' ⟨rfl, rfl⟩
     go_wp2_with fail
     refine (is_q _ b s z S e d Sy.s_tilde H.out).mono ?_; rintro en w' ⟨rfl, rfl⟩
     go_wp2_with fail
     go_ret
     exact ⟨ret_bool (by rw [HB.out, h1]; rfl), rfl⟩
    | false =>
     cases h2 : Sy.isA Sy.w_true S with
     | true =>
      go_enter Try.func98, Try.ntmps98
      go_wp2_with fail
      refine (ok_q _ b s z S e d H.out).mono ?_; rintro en w' ⟨rfl, rfl⟩
      go_wp2_with fail
      refine (is_q _ b s z S e d Sy.s_tilde H.out).mono ?_; rintro en w' ⟨rfl, rfl⟩
      go_wp2_with fail
      refine (is_q _ b s z S e d Sy.w_true H.out).mono ?_; rintro en w' ⟨rfl, rfl⟩
      go_wp2_with fail
      go_ret
      exact ⟨ret_bool (by rw [HB.out, h1, h2]; rfl), rfl⟩
     | false =>
      cases h3 : Sy.isA Sy.w_false S with
      | true =>
       go_enter Try.func98, Try.ntmps98
       go_wp2_with fail
       refine (ok_q _ b s z S e d H.out).mono ?_; rintro en w' ⟨rfl, rfl⟩
       go_wp2_with fail
       refine (is_q _ b s z S e d Sy.s_tilde H.out).mono ?_; rintro en w' ⟨rfl, rfl⟩
       go_wp2_with fail
       refine (is_q _ b s z S e d Sy.w_true H.out).mono ?_; rintro en w' ⟨rfl, rfl⟩
       go_wp2_with fail
       refine (is_q _ b s z S e d Sy.w_false H.out).mono ?_; rintro en w' ⟨rfl, rfl⟩
       go_wp2_with fail
       go_ret
       exact ⟨ret_bool (by rw [HB.out, h1, h2, h3]; rfl), rfl⟩
      | false =>
       cases h4 : Sy.isA Sy.s_lp S with
       | true =>
        go_enter Try.func98, Try.ntmps98
        go_wp2_with fail
        refine (ok_q _ b s z S e d H.out).mono ?_; rintro en w' ⟨rfl, rfl⟩
        go_wp2_with fail
        refine (is_q _ b s z S e d Sy.s_tilde H.out).mono ?_; rintro en w' ⟨rfl, rfl⟩
        go_wp2_with fail
        refine (is_q _ b s z S e d Sy.w_true H.out).mono ?_; rintro en w' ⟨rfl, rfl⟩
        go_wp2_with fail
        refine (is_q _ b s z S e d Sy.w_false H.out).mono ?_; rintro en w' ⟨rfl, rfl⟩
        go_wp2_with fail
        refine (is_q _ b s z S e d Sy.s_lp H.out).mono ?_; rintro en w' ⟨rfl, rfl⟩
        go_wp2_with fail
        go_ret
        exact ⟨ret_bool (by rw [HB.out, h1, h2, h3, h4]; rfl), rfl⟩
       | false =>
        cases h5 : Sy.isA Sy.s_ls S with
        | true =>
         go_enter Try.func98, Try.ntmps98
         go_wp2_with fail
         refine (ok_q _ b s z S e d H.out).mono ?_; rintro en w' ⟨rfl, rfl⟩
         go_wp2_with fail
         refine (is_q _ b s z S e d Sy.s_tilde H.out).mono ?_; rintro en w' ⟨rfl, rfl⟩
         go_wp2_with fail
         refine (is_q _ b s z S e d Sy.w_true H.out).mono ?_; rintro en w' ⟨rfl, rfl⟩
         go_wp2_with fail
         refine (is_q _ b s z S e d Sy.w_false H.out).mono ?_; rintro en w' ⟨rfl, rfl⟩
         go_wp2_with fail
         refine (is_q _ b s z S e d Sy.s_lp H.out).mono ?_; rintro en w' ⟨rfl, rfl⟩
         go_wp2_with fail
         refine (is_q _ b s z S e d Sy.s_ls H.out).mono ?_; rintro en w' ⟨rfl, rfl⟩
         go_wp2_with fail
         go_ret
         exact ⟨ret_bool (by rw [HB.out, h1, h2, h3, h4, h5]; rfl), rfl⟩
        | false =>
         go_enter Try.func98, Try.ntmps98
         go_wp2_with fail
         refine (ok_q _ b s z S e d H.out).mono ?_; rintro en w' ⟨rfl, rfl⟩
         go_wp2_with fail
         refine (is_q _ b s z S e d Sy.s_tilde H.out).mono ?_; rintro en w' ⟨rfl, rfl⟩
         go_wp2_with fail
         refine (is_q _ b s z S e d Sy.w_true H.out).mono ?_; rintro en w' ⟨rfl, rfl⟩
         go_wp2_with fail
         refine (is_q _ b s z S e d Sy.w_false H.out).mono ?_; rintro en w' ⟨rfl, rfl⟩
         go_wp2_with fail
         refine (is_q _ b s z S e d Sy.s_lp H.out).mono ?_; rintro en w' ⟨rfl, rfl⟩
         go_wp2_with fail
         refine (is_q _ b s z S e d Sy.s_ls H.out).mono ?_; rintro en w' ⟨rfl, rfl⟩
         go_wp2_with fail
         go_ret
         exact ⟨ret_bool (by rw [HB.out, h1, h2, h3, h4, h5]; rfl), rfl⟩
def SquareOK (N k : Nat) : Prop := ∀ (w : World) (b : Nat) (s : ByteArray) (z : Sy.Env) (p : Nat) (S : Sy.RS) (d : Nat), Rd w b s z S (200 - k) d → Sy.mu S < N →
 Calls Try.prog 100 #[.pointer (some ⟨b, 0, none⟩), .int .i64 p] w fun en w' => NRes w b s z (Sy.squareA z N (Sy.exprA z N k) p S) (200 - k) d en w'
structure InT (w : World) (b : Nat) (s : ByteArray) (z : Sy.Env) (S : Sy.RS) (e d : Nat) (W : World) : Prop where
 one : Blk W w.heap.size [.int .i64 0, .int .i64 0, .string ⟨#[]⟩, .int .i64 0, .slice none 0 0]
 tok : Blk W (w.heap.size + 1) [.int .i64 S.t.kind, .int .i64 S.t.pos, .string ⟨S.t.text.toArray⟩, .int .i64 S.t.num]
 rd : Rd W b s z S e d
 kp : Kp b w W
 size : W.heap.size = w.heap.size + 2
theorem inTy {w : World} {b e d : Nat} {s : ByteArray} {z : Sy.Env} {S : Sy.RS} (h : Rd w b s z S e d) (t1 t2 : TypeId) :
  ∃ W, (w.alloc (.cells #[.int .i64 0, .int .i64 0, .string ⟨#[]⟩, .int .i64 0, .slice none 0 0] t1)).alloc (.cells #[.int .i64 S.t.kind, .int .i64 S.t.pos, .string ⟨S.t.text.toArray⟩, .int .i64 S.t.num] t2) = W ∧ Hid (InT w b s z S e d W) := by
 refine ⟨_, rfl, ?_, ?_, (h.alloc _).alloc _, ((Kp.refl b w).alloc _).alloc _, by simp⟩
 ·exact (Blk.new w [_, _, _, _, _] _).alloc _
 ·have := Blk.new (w.alloc (.cells #[.int .i64 0, .int .i64 0, .string ⟨#[]⟩, .int .i64 0, .slice none 0 0] t1)) [.int .i64 S.t.kind, .int .i64 S.t.pos, .string ⟨S.t.text.toArray⟩, .int .i64 S.t.num] t2
  rw [show (w.alloc (.cells #[.int .i64 0, .int .i64 0, .string ⟨#[]⟩, .int .i64 0, .slice none 0 0] t1)).heap.size = w.heap.size + 1 by simp] at this
  exact this
theorem atom_m (N k : Nat) (hE : ExprOK N k) (hS : SquareOK N k) (w : World) (b : Nat) (s : ByteArray) (z : Sy.Env) (S : Sy.RS) (d : Nat) (h : Rd w b s z S (200 - k) d) (hm : Sy.mu S < N) :
  Calls Try.prog 97 #[.pointer (some ⟨b, 0, none⟩)] w fun en w' => NRes w b s z (Sy.atomA z N (Sy.exprA z N k) S) (200 - k) d en w' := by
 obtain ⟨p, hb, _⟩ := h.cells
 have H := hid h
 have HM := hid hm
 have hlt := h.lt
 have c1 := (hb 1 _ rfl).1
 have c2 := (hb 2 _ rfl).1
 have c3 := (hb 3 _ rfl).1
 have c4 := (hb 4 _ rfl).1
 clear h hb hm
 cases ho : Sy.okA S with
 | false =>
  go_enter Try.func97, Try.ntmps97
  go_wp2_with fail
  obtain ⟨W0, hW0, HI⟩ := inTy H.out 35 41
  rw [hW0]
  have HW0 := hid hW0
  clear hW0
  have hz0 := HI.out.size
  obtain ⟨t0, t1, t2, t3, t4, t5, t6, t7⟩ := blk4 HI.out.tok
  refine (ok_q _ b s z S (200 - k) d HI.out.rd).mono ?_
  rintro en w' ⟨rfl, rfl⟩
  have HX : Hid (Sy.atomA z N (Sy.exprA z N k) S = (Sy.zT, S)) := by simp [Hid, Sy.atomA, ho]
  obtain ⟨⟨u0, u1, u2, u3, u4⟩, u5, u6, u7, u8, u9⟩ := blk5 HI.out.one
  go_wp2_with fail
  refine bodyPost_ret (v := .agg #[.int .i64 0, .int .i64 0, .string ⟨#[]⟩, .int .i64 0, .slice none 0 0]) (by simp [results, Try.results97, go_sem, u0, u1, u2, u3, u4]) rfl ?_
  exact nres_fin (lo := W0.heap.size) Sy.zT S .nil HI.out.rd HI.out.kp HX.out (by omega) (by omega) (by omega) _ _ _ _ rfl rfl rfl rfl _ _ _ _ _
 | true =>
  by_cases hk2 : S.t.kind = 2
  ·have HQ2 := hid hk2
   have hk2' : ((S.t.kind : Int) == 2) = true := by simp [hk2]
   clear hk2
   go_enter Try.func97, Try.ntmps97
   go_wp2_with fail
   obtain ⟨W0, hW0, HI⟩ := inTy H.out 35 41; rw [hW0]; have HW0 := hid hW0; clear hW0; have hz0 := HI.out.size; obtain ⟨t0, t1, t2, t3, t4, t5, t6, t7⟩ := blk4 HI.out.tok; refine (ok_q _ b s z S (200 - k) d HI.out.rd).mono ?_; rintro en w' ⟨rfl, rfl⟩; have HX : Hid (Sy.atomA z N (Sy.exprA z N k) S = (Sy.nm 6 S.t.pos S.t.text [], Sy.nextA z S)) := by simp [Hid, Sy.atomA, ho, HQ2.out]
   go_wp2_with fail
   refine (next_m _ b s z S (200 - k) d HI.out.rd).mono ?_; rintro en w1 ⟨rfl, hr1, hk1⟩; have HR1 := hid hr1; have HK1 := hid hk1; clear hr1 hk1; have HT0x1 := hid (HI.out.tok.kp HK1.out (by omega)); have HRS1 := hid (HI.out.one.kp HK1.out (by omega)); have HKA1 := hid (HI.out.kp.trans HK1.out); have ht1 := HK1.out.size; obtain ⟨m0, m1, m2, m3, m4, m5, m6, m7⟩ := blk4 HT0x1.out
   go_wp2_with fail
   refine (named_m _ _ _ _ _ _ _).mono ?_; rintro en w2 ⟨rfl, HB2⟩; have HT0x2 := hid (HT0x1.out.past HB2.out); have HRS2 := hid (HRS1.out.past HB2.out); have HKA2 := hid (HKA1.out.below HB2.out); have HR2 := hid (HR1.out.below HB2.out HR1.out.lt); have ht2 := HB2.out.size; obtain ⟨⟨u0, u1, u2, u3, u4⟩, u5, u6, u7, u8, u9⟩ := blk5 HRS2.out
   go_wp2_with fail
   refine bodyPost_ret (v := .agg #[.int .i64 6, .int .i64 S.t.pos, .string ⟨S.t.text.toArray⟩, .int .i64 0, .slice none 0 0]) (by simp [results, Try.results97, go_sem, u0, u1, u2, u3, u4]) rfl ?_; exact nres_fin (lo := W0.heap.size) (Sy.nm 6 S.t.pos S.t.text []) (Sy.nextA z S) .nil HR2.out HKA2.out HX.out (by omega) (by omega) (by omega) _ _ _ _ rfl rfl rfl rfl _ _ _ _ _
  ·have hk2' : ((S.t.kind : Int) == 2) = false := by simp; omega
   by_cases hk1 : S.t.kind = 1
   ·have HQ1 := hid hk1
    have hk1' : ((S.t.kind : Int) == 1) = true := by simp [hk1]
    clear hk1 hk2
    go_enter Try.func97, Try.ntmps97
    go_wp2_with fail
    obtain ⟨W0, hW0, HI⟩ := inTy H.out 35 41; rw [hW0]; have HW0 := hid hW0; clear hW0; have hz0 := HI.out.size; obtain ⟨t0, t1, t2, t3, t4, t5, t6, t7⟩ := blk4 HI.out.tok; refine (ok_q _ b s z S (200 - k) d HI.out.rd).mono ?_; rintro en w' ⟨rfl, rfl⟩; have HX : Hid (Sy.atomA z N (Sy.exprA z N k) S = (.mk 3 S.t.pos [] S.t.num [], Sy.nextA z S)) := by simp [Hid, Sy.atomA, ho, HQ1.out]
    go_wp2_with fail
    refine (next_m _ b s z S (200 - k) d HI.out.rd).mono ?_; rintro en w1 ⟨rfl, hr1, hk1⟩; have HR1 := hid hr1; have HK1 := hid hk1; clear hr1 hk1; have HT0x1 := hid (HI.out.tok.kp HK1.out (by omega)); have HRS1 := hid (HI.out.one.kp HK1.out (by omega)); have HKA1 := hid (HI.out.kp.trans HK1.out); have ht1 := HK1.out.size; obtain ⟨m0, m1, m2, m3, m4, m5, m6, m7⟩ := blk4 HT0x1.out; obtain ⟨⟨u0, u1, u2, u3, u4⟩, u5, u6, u7, u8, u9⟩ := blk5 HRS1.out
    go_wp2_with fail
    refine bodyPost_ret (v := .agg #[.int .i64 3, .int .i64 S.t.pos, .string ⟨#[]⟩, .int .i64 S.t.num, .slice none 0 0]) (by simp [results, Try.results97, go_sem, u0, u1, u2, u3, u4]) rfl ?_; exact nres_fin (lo := W0.heap.size) (.mk 3 S.t.pos [] S.t.num []) (Sy.nextA z S) .nil HR1.out HKA1.out HX.out (by omega) (by omega) (by omega) _ _ _ _ rfl rfl rfl rfl _ _ _ _ _
   ·have hk1' : ((S.t.kind : Int) == 1) = false := by simp; omega
    have HQ1 := hid hk1; have HQ2 := hid hk2; clear hk1 hk2
    cases h1 : Sy.isA Sy.s_tilde S with
    | true =>
     go_enter Try.func97, Try.ntmps97
     go_wp2_with fail
     obtain ⟨W0, hW0, HI⟩ := inTy H.out 35 41; rw [hW0]; have HW0 := hid hW0; clear hW0; have hz0 := HI.out.size; obtain ⟨t0, t1, t2, t3, t4, t5, t6, t7⟩ := blk4 HI.out.tok; refine (ok_q _ b s z S (200 - k) d HI.out.rd).mono ?_; rintro en w' ⟨rfl, rfl⟩
     go_wp2_with fail
     have HU := hid (Sy.mu_is z h1); refine (has_yes _ b s z S (200 - k) d Sy.s_tilde HI.out.rd h1).mono ?_; rintro en w1 ⟨rfl, hr1, hk1⟩; have HR1 := hid hr1; have HK1 := hid hk1; clear hr1 hk1; have HT0x1 := hid (HI.out.tok.kp HK1.out (by omega)); have HRS1 := hid (HI.out.one.kp HK1.out (by omega)); have HKA1 := hid (HI.out.kp.trans HK1.out); have ht1 := HK1.out.size; generalize hu : Sy.nextA z S = u at *; have HUU := hid hu; clear hu; have hnum := HR1.out.num; obtain ⟨p2, hb2, _⟩ := HR1.out.cells; have c2_1 := (hb2 1 _ rfl).1; have c2_4 := (hb2 4 _ rfl).1; clear hb2
     go_wp2_with fail
     refine (ok_q _ b s z u (200 - k) d HR1.out).mono ?_; rintro en w' ⟨rfl, rfl⟩
     rcases (show (Sy.okA u = true ∧ (((u.t.kind : Int) != 1) = true ∧ ¬ u.t.kind = 1)) ∨ (Sy.okA u = true ∧ (((u.t.kind : Int) != 1) = false ∧ u.t.kind = 1)) ∨ Sy.okA u = false from by
      cases h9 : Sy.okA u with
      | false => exact .inr (.inr rfl)
      | true =>
       by_cases h8 : u.t.kind = 1
       ·exact .inr (.inl ⟨rfl, by simp [h8], h8⟩)
       ·exact .inl ⟨rfl, by simp; omega, h8⟩) with ⟨h9, h8, h7⟩ | ⟨h9, h8, h7⟩ | h9
     ·have HX : Hid (Sy.atomA z N (Sy.exprA z N k) S = (.mk 3 S.t.pos [] (-u.t.num) [], Sy.nextA z (Sy.noA u))) := by simp [Hid, Sy.atomA, ho, HQ1.out, HQ2.out, h1, HUU.out, h9, h7]
      have H7 := hid h7; clear h7
      go_wp2_with fail
      refine (no_m _ b s z u (200 - k) d HR1.out).mono ?_; rintro en w3 ⟨rfl, hr3, hk3⟩; have HR3 := hid hr3; have HK3 := hid hk3; clear hr3 hk3; have HT0x3 := hid (HT0x1.out.kp HK3.out (by omega)); have HRS3 := hid (HRS1.out.kp HK3.out (by omega)); have HKA3 := hid (HKA1.out.trans HK3.out); have ht3 := HK3.out.size
      go_wp2_with fail
      refine (next_m _ b s z (Sy.noA u) (200 - k) d HR3.out).mono ?_; rintro en w4 ⟨rfl, hr4, hk4⟩; have HR4 := hid hr4; have HK4 := hid hk4; clear hr4 hk4; have HT0x4 := hid (HT0x3.out.kp HK4.out (by omega)); have HRS4 := hid (HRS3.out.kp HK4.out (by omega)); have HKA4 := hid (HKA3.out.trans HK4.out); have ht4 := HK4.out.size; obtain ⟨⟨u0, u1, u2, u3, u4⟩, u5, u6, u7, u8, u9⟩ := blk5 HRS4.out
      go_wp2_with fail
      refine bodyPost_ret (v := .agg #[.int .i64 3, .int .i64 S.t.pos, .string ⟨#[]⟩, .int .i64 (-u.t.num), .slice none 0 0]) (by simp [results, Try.results97, go_sem, u0, u1, u2, u3, u4]) rfl ?_; exact nres_fin (lo := W0.heap.size) (.mk 3 S.t.pos [] (-u.t.num) []) (Sy.nextA z (Sy.noA u)) .nil HR4.out HKA4.out HX.out (by omega) (by omega) (by omega) _ _ _ _ rfl rfl rfl rfl _ _ _ _ _
     ·have HX : Hid (Sy.atomA z N (Sy.exprA z N k) S = (.mk 3 S.t.pos [] (-u.t.num) [], Sy.nextA z u)) := by simp [Hid, Sy.atomA, ho, HQ1.out, HQ2.out, h1, HUU.out, h9, h7]
      have H7 := hid h7; clear h7
      go_wp2_with fail
      refine (next_m _ b s z u (200 - k) d HR1.out).mono ?_; rintro en w3 ⟨rfl, hr3, hk3⟩; have HR3 := hid hr3; have HK3 := hid hk3; clear hr3 hk3; have HT0x3 := hid (HT0x1.out.kp HK3.out (by omega)); have HRS3 := hid (HRS1.out.kp HK3.out (by omega)); have HKA3 := hid (HKA1.out.trans HK3.out); have ht3 := HK3.out.size; obtain ⟨⟨u0, u1, u2, u3, u4⟩, u5, u6, u7, u8, u9⟩ := blk5 HRS3.out
      go_wp2_with fail
      refine bodyPost_ret (v := .agg #[.int .i64 3, .int .i64 S.t.pos, .string ⟨#[]⟩, .int .i64 (-u.t.num), .slice none 0 0]) (by simp [results, Try.results97, go_sem, u0, u1, u2, u3, u4]) rfl ?_; exact nres_fin (lo := W0.heap.size) (.mk 3 S.t.pos [] (-u.t.num) []) (Sy.nextA z u) .nil HR3.out HKA3.out HX.out (by omega) (by omega) (by omega) _ _ _ _ rfl rfl rfl rfl _ _ _ _ _
     ·have HX : Hid (Sy.atomA z N (Sy.exprA z N k) S = (.mk 3 S.t.pos [] (-u.t.num) [], Sy.nextA z u)) := by simp [Hid, Sy.atomA, ho, HQ1.out, HQ2.out, h1, HUU.out, h9]
      go_wp2_with fail
      refine (next_m _ b s z u (200 - k) d HR1.out).mono ?_; rintro en w3 ⟨rfl, hr3, hk3⟩; have HR3 := hid hr3; have HK3 := hid hk3; clear hr3 hk3; have HT0x3 := hid (HT0x1.out.kp HK3.out (by omega)); have HRS3 := hid (HRS1.out.kp HK3.out (by omega)); have HKA3 := hid (HKA1.out.trans HK3.out); have ht3 := HK3.out.size; obtain ⟨⟨u0, u1, u2, u3, u4⟩, u5, u6, u7, u8, u9⟩ := blk5 HRS3.out
      go_wp2_with fail
      refine bodyPost_ret (v := .agg #[.int .i64 3, .int .i64 S.t.pos, .string ⟨#[]⟩, .int .i64 (-u.t.num), .slice none 0 0]) (by simp [results, Try.results97, go_sem, u0, u1, u2, u3, u4]) rfl ?_; exact nres_fin (lo := W0.heap.size) (.mk 3 S.t.pos [] (-u.t.num) []) (Sy.nextA z u) .nil HR3.out HKA3.out HX.out (by omega) (by omega) (by omega) _ _ _ _ rfl rfl rfl rfl _ _ _ _ _
    | false =>
     cases h2 : Sy.isA Sy.w_true S with
     | true =>
      go_enter Try.func97, Try.ntmps97
      go_wp2_with fail
      obtain ⟨W0, hW0, HI⟩ := inTy H.out 35 41; rw [hW0]; have HW0 := hid hW0; clear hW0; have hz0 := HI.out.size; obtain ⟨t0, t1, t2, t3, t4, t5, t6, t7⟩ := blk4 HI.out.tok; refine (ok_q _ b s z S (200 - k) d HI.out.rd).mono ?_; rintro en w' ⟨rfl, rfl⟩
      go_wp2_with fail
      refine (has_no _ b s z S (200 - k) d Sy.s_tilde HI.out.rd h1).mono ?_; rintro en w' ⟨rfl, rfl⟩
      go_wp2_with fail
      have HX : Hid (Sy.atomA z N (Sy.exprA z N k) S = (.mk 4 S.t.pos [] 1 [], Sy.nextA z S)) := by simp [Hid, Sy.atomA, ho, HQ1.out, HQ2.out, h1, h2]
      refine (has_yes _ b s z S (200 - k) d Sy.w_true HI.out.rd h2).mono ?_; rintro en w1 ⟨rfl, hr1, hk1⟩; have HR1 := hid hr1; have HK1 := hid hk1; clear hr1 hk1; have HT0x1 := hid (HI.out.tok.kp HK1.out (by omega)); have HRS1 := hid (HI.out.one.kp HK1.out (by omega)); have HKA1 := hid (HI.out.kp.trans HK1.out); have ht1 := HK1.out.size; obtain ⟨⟨u0, u1, u2, u3, u4⟩, u5, u6, u7, u8, u9⟩ := blk5 HRS1.out
      go_wp2_with fail
      refine bodyPost_ret (v := .agg #[.int .i64 4, .int .i64 S.t.pos, .string ⟨#[]⟩, .int .i64 1, .slice none 0 0]) (by simp [results, Try.results97, go_sem, u0, u1, u2, u3, u4]) rfl ?_; exact nres_fin (lo := W0.heap.size) (.mk 4 S.t.pos [] 1 []) (Sy.nextA z S) .nil HR1.out HKA1.out HX.out (by omega) (by omega) (by omega) _ _ _ _ rfl rfl rfl rfl _ _ _ _ _
     | false =>
      cases h3 : Sy.isA Sy.w_false S with
      | true =>
       go_enter Try.func97, Try.ntmps97
       go_wp2_with fail
       obtain ⟨W0, hW0, HI⟩ := inTy H.out 35 41; rw [hW0]; have HW0 := hid hW0; clear hW0; have hz0 := HI.out.size; obtain ⟨t0, t1, t2, t3, t4, t5, t6, t7⟩ := blk4 HI.out.tok; refine (ok_q _ b s z S (200 - k) d HI.out.rd).mono ?_; rintro en w' ⟨rfl, rfl⟩
       go_wp2_with fail
       refine (has_no _ b s z S (200 - k) d Sy.s_tilde HI.out.rd h1).mono ?_; rintro en w' ⟨rfl, rfl⟩
       go_wp2_with fail
       refine (has_no _ b s z S (200 - k) d Sy.w_true HI.out.rd h2).mono ?_; rintro en w' ⟨rfl, rfl⟩
       go_wp2_with fail
       have HX : Hid (Sy.atomA z N (Sy.exprA z N k) S = (.mk 4 S.t.pos [] 0 [], Sy.nextA z S)) := by simp [Hid, Sy.atomA, Sy.nd, ho, HQ1.out, HQ2.out, h1, h2, h3]
       refine (has_yes _ b s z S (200 - k) d Sy.w_false HI.out.rd h3).mono ?_; rintro en w1 ⟨rfl, hr1, hk1⟩; have HR1 := hid hr1; have HK1 := hid hk1; clear hr1 hk1; have HT0x1 := hid (HI.out.tok.kp HK1.out (by omega)); have HRS1 := hid (HI.out.one.kp HK1.out (by omega)); have HKA1 := hid (HI.out.kp.trans HK1.out); have ht1 := HK1.out.size; obtain ⟨⟨u0, u1, u2, u3, u4⟩, u5, u6, u7, u8, u9⟩ := blk5 HRS1.out
       go_wp2_with fail
       refine bodyPost_ret (v := .agg #[.int .i64 4, .int .i64 S.t.pos, .string ⟨#[]⟩, .int .i64 0, .slice none 0 0]) (by simp [results, Try.results97, go_sem, u0, u1, u2, u3, u4]) rfl ?_; exact nres_fin (lo := W0.heap.size) (.mk 4 S.t.pos [] 0 []) (Sy.nextA z S) .nil HR1.out HKA1.out HX.out (by omega) (by omega) (by omega) _ _ _ _ rfl rfl rfl rfl _ _ _ _ _
      | false =>
       cases h4 : Sy.isA Sy.s_lp S with
       | true =>
        go_enter Try.func97, Try.ntmps97
        go_wp2_with fail
        obtain ⟨W0, hW0, HI⟩ := inTy H.out 35 41; rw [hW0]; have HW0 := hid hW0; clear hW0; have hz0 := HI.out.size; obtain ⟨t0, t1, t2, t3, t4, t5, t6, t7⟩ := blk4 HI.out.tok; refine (ok_q _ b s z S (200 - k) d HI.out.rd).mono ?_; rintro en w' ⟨rfl, rfl⟩
        go_wp2_with fail
        refine (has_no _ b s z S (200 - k) d Sy.s_tilde HI.out.rd h1).mono ?_; rintro en w' ⟨rfl, rfl⟩
        go_wp2_with fail
        refine (has_no _ b s z S (200 - k) d Sy.w_true HI.out.rd h2).mono ?_; rintro en w' ⟨rfl, rfl⟩
        go_wp2_with fail
        refine (has_no _ b s z S (200 - k) d Sy.w_false HI.out.rd h3).mono ?_; rintro en w' ⟨rfl, rfl⟩
        go_wp2_with fail
        have HX : Hid (Sy.atomA z N (Sy.exprA z N k) S = ((Sy.roundA z (Sy.exprA z N k) S.t.pos (Sy.nextA z S)).1, (Sy.roundA z (Sy.exprA z N k) S.t.pos (Sy.nextA z S)).2)) := by simp [Hid, Sy.atomA, ho, HQ1.out, HQ2.out, h1, h2, h3, h4]
        have HMA : Hid (Sy.mu (Sy.nextA z S) < N) := Nat.lt_trans (Sy.mu_is z h4) HM.out; refine (has_yes _ b s z S (200 - k) d Sy.s_lp HI.out.rd h4).mono ?_; rintro en w1 ⟨rfl, hr1, hk1⟩; have HR1 := hid hr1; have HK1 := hid hk1; clear hr1 hk1; have HT0x1 := hid (HI.out.tok.kp HK1.out (by omega)); have HRS1 := hid (HI.out.one.kp HK1.out (by omega)); have HKA1 := hid (HI.out.kp.trans HK1.out); have ht1 := HK1.out.size
        go_wp2_with fail
        refine (round_m N k hE w1 b s z S.t.pos (Sy.nextA z S) d HR1.out HMA.out).mono ?_; rintro en w2 ⟨a2, l2, c2, rfl, HKd2, HR2, HK2⟩; generalize hy2 : Sy.roundA z (Sy.exprA z N k) S.t.pos (Sy.nextA z S) = y2 at *; have HY2 := hid hy2; clear hy2; have HT0x2 := hid (HT0x1.out.kp HK2.out (by omega)); have HRS2 := hid (HRS1.out.kp HK2.out (by omega)); have HKA2 := hid (HKA1.out.trans HK2.out); have ht2 := HK2.out.size; obtain ⟨⟨u0, u1, u2, u3, u4⟩, u5, u6, u7, u8, u9⟩ := blk5 HRS2.out
        go_wp2_with fail
        refine bodyPost_ret (v := .agg #[.int .i64 y2.1.kind, .int .i64 y2.1.pos, .string ⟨y2.1.name.toArray⟩, .int .i64 y2.1.num, .slice a2 l2 c2]) (by simp [results, Try.results97, go_sem, u0, u1, u2, u3, u4]) rfl ?_; exact nres_fin (lo := W0.heap.size) y2.1 y2.2 (HKd2.out.weak (fun g hg _ => Nat.le_trans (by omega) hg)) HR2.out HKA2.out HX.out (by omega) (by omega) (by omega) _ _ _ _ rfl rfl rfl rfl _ _ _ _ _
       | false =>
        cases h5 : Sy.isA Sy.s_ls S with
        | true =>
         go_enter Try.func97, Try.ntmps97
         go_wp2_with fail
         obtain ⟨W0, hW0, HI⟩ := inTy H.out 35 41; rw [hW0]; have HW0 := hid hW0; clear hW0; have hz0 := HI.out.size; obtain ⟨t0, t1, t2, t3, t4, t5, t6, t7⟩ := blk4 HI.out.tok; refine (ok_q _ b s z S (200 - k) d HI.out.rd).mono ?_; rintro en w' ⟨rfl, rfl⟩
         go_wp2_with fail
         refine (has_no _ b s z S (200 - k) d Sy.s_tilde HI.out.rd h1).mono ?_; rintro en w' ⟨rfl, rfl⟩
         go_wp2_with fail
         refine (has_no _ b s z S (200 - k) d Sy.w_true HI.out.rd h2).mono ?_; rintro en w' ⟨rfl, rfl⟩
         go_wp2_with fail
         refine (has_no _ b s z S (200 - k) d Sy.w_false HI.out.rd h3).mono ?_; rintro en w' ⟨rfl, rfl⟩
         go_wp2_with fail
         refine (has_no _ b s z S (200 - k) d Sy.s_lp HI.out.rd h4).mono ?_; rintro en w' ⟨rfl, rfl⟩
         go_wp2_with fail
         have HX : Hid (Sy.atomA z N (Sy.exprA z N k) S = ((Sy.squareA z N (Sy.exprA z N k) S.t.pos (Sy.nextA z S)).1, (Sy.squareA z N (Sy.exprA z N k) S.t.pos (Sy.nextA z S)).2)) := by simp [Hid, Sy.atomA, ho, HQ1.out, HQ2.out, h1, h2, h3, h4, h5]
         have HMA : Hid (Sy.mu (Sy.nextA z S) < N) := Nat.lt_trans (Sy.mu_is z h5) HM.out; refine (has_yes _ b s z S (200 - k) d Sy.s_ls HI.out.rd h5).mono ?_; rintro en w1 ⟨rfl, hr1, hk1⟩; have HR1 := hid hr1; have HK1 := hid hk1; clear hr1 hk1; have HT0x1 := hid (HI.out.tok.kp HK1.out (by omega)); have HRS1 := hid (HI.out.one.kp HK1.out (by omega)); have HKA1 := hid (HI.out.kp.trans HK1.out); have ht1 := HK1.out.size
         go_wp2_with fail
         refine (hS w1 b s z S.t.pos (Sy.nextA z S) d HR1.out HMA.out).mono ?_; rintro en w2 ⟨a2, l2, c2, rfl, HKd2, HR2, HK2⟩; generalize hy2 : Sy.squareA z N (Sy.exprA z N k) S.t.pos (Sy.nextA z S) = y2 at *; have HY2 := hid hy2; clear hy2; have HT0x2 := hid (HT0x1.out.kp HK2.out (by omega)); have HRS2 := hid (HRS1.out.kp HK2.out (by omega)); have HKA2 := hid (HKA1.out.trans HK2.out); have ht2 := HK2.out.size; obtain ⟨⟨u0, u1, u2, u3, u4⟩, u5, u6, u7, u8, u9⟩ := blk5 HRS2.out
         go_wp2_with fail
         refine bodyPost_ret (v := .agg #[.int .i64 y2.1.kind, .int .i64 y2.1.pos, .string ⟨y2.1.name.toArray⟩, .int .i64 y2.1.num, .slice a2 l2 c2]) (by simp [results, Try.results97, go_sem, u0, u1, u2, u3, u4]) rfl ?_; exact nres_fin (lo := W0.heap.size) y2.1 y2.2 (HKd2.out.weak (fun g hg _ => Nat.le_trans (by omega) hg)) HR2.out HKA2.out HX.out (by omega) (by omega) (by omega) _ _ _ _ rfl rfl rfl rfl _ _ _ _ _
        | false =>
         go_enter Try.func97, Try.ntmps97
         go_wp2_with fail
         obtain ⟨W0, hW0, HI⟩ := inTy H.out 35 41; rw [hW0]; have HW0 := hid hW0; clear hW0; have hz0 := HI.out.size; obtain ⟨t0, t1, t2, t3, t4, t5, t6, t7⟩ := blk4 HI.out.tok; refine (ok_q _ b s z S (200 - k) d HI.out.rd).mono ?_; rintro en w' ⟨rfl, rfl⟩
         go_wp2_with fail
         refine (has_no _ b s z S (200 - k) d Sy.s_tilde HI.out.rd h1).mono ?_; rintro en w' ⟨rfl, rfl⟩
         go_wp2_with fail
         refine (has_no _ b s z S (200 - k) d Sy.w_true HI.out.rd h2).mono ?_; rintro en w' ⟨rfl, rfl⟩
         go_wp2_with fail
         refine (has_no _ b s z S (200 - k) d Sy.w_false HI.out.rd h3).mono ?_; rintro en w' ⟨rfl, rfl⟩
         go_wp2_with fail
         refine (has_no _ b s z S (200 - k) d Sy.s_lp HI.out.rd h4).mono ?_; rintro en w' ⟨rfl, rfl⟩
         go_wp2_with fail
         refine (has_no _ b s z S (200 - k) d Sy.s_ls HI.out.rd h5).mono ?_; rintro en w' ⟨rfl, rfl⟩
         go_wp2_with fail
         have HX : Hid (Sy.atomA z N (Sy.exprA z N k) S = (Sy.zT, Sy.noA S)) := by simp [Hid, Sy.atomA, ho, HQ1.out, HQ2.out, h1, h2, h3, h4, h5]
         refine (no_m _ b s z S (200 - k) d HI.out.rd).mono ?_; rintro en w1 ⟨rfl, hr1, hk1⟩; have HR1 := hid hr1; have HK1 := hid hk1; clear hr1 hk1; have HT0x1 := hid (HI.out.tok.kp HK1.out (by omega)); have HRS1 := hid (HI.out.one.kp HK1.out (by omega)); have HKA1 := hid (HI.out.kp.trans HK1.out); have ht1 := HK1.out.size; obtain ⟨⟨u0, u1, u2, u3, u4⟩, u5, u6, u7, u8, u9⟩ := blk5 HRS1.out
         go_wp2_with fail
         refine bodyPost_ret (v := .agg #[.int .i64 0, .int .i64 0, .string ⟨#[]⟩, .int .i64 0, .slice none 0 0]) (by simp [results, Try.results97, go_sem, u0, u1, u2, u3, u4]) rfl ?_; exact nres_fin (lo := W0.heap.size) Sy.zT (Sy.noA S) .nil HR1.out HKA1.out HX.out (by omega) (by omega) (by omega) _ _ _ _ rfl rfl rfl rfl _ _ _ _ _
end Go.Proofs.Ytejciampbnfbhaa

namespace Go.Proofs.Ytejciampbnfbhaa
open Go.RowKit
structure Lv (w : World) (b A R lo : Nat) (s : ByteArray) (z : Sy.Env) (x : Sy.Tr × Sy.RS) (e d : Nat) (W : World) : Prop where
 var : ∃ a l c, Vr W A lo x.1 a l c
 res : ∃ r0 r1 r2 r3 r4, Blk W R [r0, r1, r2, r3, r4]
 rd : Rd W b s z x.2 e d
 kp : Kp b w W
theorem lv_put {w w2 : World} {b A R lo e d : Nat} {s : ByteArray} {z : Sy.Env} {S : Sy.RS} {o0 o1 o2 o3 o4 r0 r1 r2 r3 r4 : Value} (hA : Blk w2 A [o0, o1, o2, o3, o4]) (hR : Blk w2 R [r0, r1, r2, r3, r4])
  (h1 : R ≠ A) (h2 : b ≠ A) (h4 : w.heap.size ≤ A) (hr : Rd w2 b s z S e d) (T : Sy.Tr) {a : Option Addr} {l c : Nat} (hk : Kids w2 (Fr lo A) (.slice a l c) T.kids) (hkp : Kp b w w2)
  (kk pp nn : Int) (xx : ByteArray) (e1 : kk = T.kind) (e2 : pp = T.pos) (e3 : xx = ⟨T.name.toArray⟩) (e4 : nn = T.num) :
  ∃ W, ((((w2.setCell ⟨A, 0, none⟩ (.int .i64 kk)).setCell ⟨A, 1, none⟩ (.int .i64 pp)).setCell ⟨A, 2, none⟩ (.string xx)).setCell ⟨A, 3, none⟩ (.int .i64 nn)).setCell ⟨A, 4, none⟩ (.slice a l c) = W ∧ Hid (Lv w b A R lo s z (T, S) e d W) := by
 subst e1 e2 e3 e4
 refine ⟨_, rfl, ⟨a, l, c, hA.store _ _ _ _ _, ?_⟩, ⟨r0, r1, r2, r3, r4, hR.of_heap (sto5_heap _ _ _ _ _ _ _ _ h1)⟩, hr.of_heap (sto5_heap _ _ _ _ _ _ _ _ h2), sto5_kp hkp h4 _ _ _ _ _⟩
 exact hk.carry (fun g hg _ => sto5_heap _ _ _ _ _ _ _ _ hg.2) (fun g hg _ => hg)
theorem kids_newH {w1 w2 : World} {F : Nat → Prop} {ty : TypeId} (H : Nat) (hH : w1.heap.size = H) (l : List (Sy.Tr × Value)) (h0 : l ≠ []) (hF : F H) (hk : ∀ p ∈ l, Kids w1 F p.2 p.1.kids) (cs : Array Value) (hcs : cs = (rowCells l).toArray) (n : Nat) (hn : n = l.length)
  (hb : Below (w1.alloc (.cells cs ty)).heap.size (w1.alloc (.cells cs ty)) w2) : Kids w2 F (.slice (some ⟨H, 0, none⟩) n n) (l.map (·.1)) := by
 subst hH
 exact kids_new l h0 hF hk cs hcs n hn hb
def Two (w : World) (F : Nat → Prop) (T1 T2 : Sy.Tr) (x : List UInt8) (en : Ending) (w' : World) : Prop :=
 ∃ g, en = .returned (.agg #[.int .i64 18, .int .i64 T1.pos, .string ⟨x.toArray⟩, .int .i64 0, .slice (some ⟨g, 0, none⟩) 2 2]) ∧ Hid (Kids w' F (.slice (some ⟨g, 0, none⟩) 2 2) [T1, T2]) ∧ Hid (Below w.heap.size w w')
theorem two_m (w : World) (F : Nat → Prop) (T1 T2 : Sy.Tr) (x : List UInt8) (a1 a2 : Option Addr) (l1 c1 l2 c2 : Nat) (hF : ∀ g, w.heap.size ≤ g → F g) (h1 : Kids w F (.slice a1 l1 c1) T1.kids) (h2 : Kids w F (.slice a2 l2 c2) T2.kids) :
  Calls Try.prog 89 #[.string ⟨x.toArray⟩, .agg #[.int .i64 T1.kind, .int .i64 T1.pos, .string ⟨T1.name.toArray⟩, .int .i64 T1.num, .slice a1 l1 c1], .agg #[.int .i64 T2.kind, .int .i64 T2.pos, .string ⟨T2.name.toArray⟩, .int .i64 T2.num, .slice a2 l2 c2]] w
   fun en w' => Two w F T1 T2 x en w' := by
 have HF := hid hF
 have H1 := hid h1
 have H2 := hid h2
 clear hF h1 h2
 go_enter Try.func89, Try.ntmps89
 go_wp2_with fail
 refine (named_m _ _ _ _ _ _ _).mono ?_
 rintro en w1 ⟨rfl, HB1⟩
 have HK := hid (kids_newH (F := fun g => F g ∧ g ≠ w.heap.size + 1 + 1) (w.heap.size + 1 + 1 + 1) (by simp) [(T1, .slice a1 l1 c1), (T2, .slice a2 l2 c2)] (by simp) ⟨HF.out _ (by omega), by omega⟩ (by
  have hb : Below w.heap.size w (((w.alloc (.cells #[.int .i64 T1.kind, .int .i64 T1.pos, .string ⟨T1.name.toArray⟩, .int .i64 T1.num, .slice a1 l1 c1] 35)).alloc (.cells #[.int .i64 T2.kind, .int .i64 T2.pos, .string ⟨T2.name.toArray⟩, .int .i64 T2.num, .slice a2 l2 c2] 35)).alloc (.cells #[.int .i64 0, .int .i64 0, .string ⟨#[]⟩, .int .i64 0, .slice none 0 0] 35)) :=
   (((Below.refl _ _).alloc (Nat.le_refl _) _).alloc (by simp) _).alloc (by simp; omega) _
  intro p hp
  simp only [List.mem_cons, List.not_mem_nil, or_false] at hp
  rcases hp with rfl | rfl
  ·exact (H1.out.weak (fun g hg hlt => ⟨hg, by omega⟩)).pastF hb
  ·exact (H2.out.weak (fun g hg hlt => ⟨hg, by omega⟩)).pastF hb) _ rfl 2 rfl HB1.out)
 have HR : Hid (Blk w1 (w.heap.size + 1 + 1) [.int .i64 0, .int .i64 0, .string ⟨#[]⟩, .int .i64 0, .slice none 0 0]) := by
  have h := Blk.new ((w.alloc (.cells #[.int .i64 T1.kind, .int .i64 T1.pos, .string ⟨T1.name.toArray⟩, .int .i64 T1.num, .slice a1 l1 c1] 35)).alloc (.cells #[.int .i64 T2.kind, .int .i64 T2.pos, .string ⟨T2.name.toArray⟩, .int .i64 T2.num, .slice a2 l2 c2] 35)) [.int .i64 0, .int .i64 0, .string ⟨#[]⟩, .int .i64 0, .slice none 0 0] 35
  rw [show ((w.alloc (.cells #[.int .i64 T1.kind, .int .i64 T1.pos, .string ⟨T1.name.toArray⟩, .int .i64 T1.num, .slice a1 l1 c1] 35)).alloc (.cells #[.int .i64 T2.kind, .int .i64 T2.pos, .string ⟨T2.name.toArray⟩, .int .i64 T2.num, .slice a2 l2 c2] 35)).heap.size = w.heap.size + 1 + 1 by simp] at h
  exact (h.alloc _).past HB1.out
 have HBL : Hid (Below w.heap.size w w1) := (((((Below.refl _ _).alloc (Nat.le_refl _) _).alloc (by simp) _).alloc (by simp; omega) _).alloc (by simp; omega) _).trans (HB1.out.mono (by simp; omega))
 obtain ⟨⟨u0, u1, u2, u3, u4⟩, u5, u6, u7, u8, u9⟩ := blk5 HR.out
 go_wp2_with fail
 refine bodyPost_ret (v := .agg #[.int .i64 18, .int .i64 T1.pos, .string ⟨x.toArray⟩, .int .i64 0, .slice (some ⟨w.heap.size + 1 + 1 + 1, 0, none⟩) 2 2]) (by simp [results, Try.results89, go_sem, u0, u1, u2, u3, u4]) rfl ?_
 refine ⟨_, rfl, HK.out.carry (fun g hg _ => sto5_heap w1 (w.heap.size + 1 + 1) _ _ _ _ _ _ hg.2) (fun g hg _ => hg.1), ?_⟩
 exact ((((HBL.out.setCell (by show w.heap.size ≤ w.heap.size + 1 + 1; omega) _).setCell (by show w.heap.size ≤ w.heap.size + 1 + 1; omega) _).setCell (by show w.heap.size ≤ w.heap.size + 1 + 1; omega) _).setCell (by show w.heap.size ≤ w.heap.size + 1 + 1; omega) _).setCell (by show w.heap.size ≤ w.heap.size + 1 + 1; omega) _
end Go.Proofs.Ytejciampbnfbhaa
