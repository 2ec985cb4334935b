/-
  A tree in a variable that a loop writes; what the document's two makes.
  What the document's reader of expressions does: app, mul, sum.
-/
import Derived.Test.YtedppdcknkcbjaaGreatDoorMRxc
set_option linter.unusedVariables false
set_option linter.unusedSimpArgs false
namespace Go.Proofs.YtedppdcknkcbjaaGreatDoor
open Go.RowKit

/-- A tree in the variable A, the result's block R, the reader. -/
structure Lv (w : World) (b A R lo : Nat) (s : ByteArray) (z : Sy.Env) (x : Sy.Tr × Sy.RS) (e d : Nat) (W : World) : Prop where
  var : ∃ a l c, Vr W A lo x.1 a l c
  res : ∃ r0 r1 r2 r3 r4, Blk W R [r0, r1, r2, r3, r4]
  rd : Rd W b s z x.2 e d
  kp : Kp b w W

theorem lv_put {w w2 : World} {b A R lo e d : Nat} {s : ByteArray} {z : Sy.Env} {S : Sy.RS} {o0 o1 o2 o3 o4 r0 r1 r2 r3 r4 : Value} (hA : Blk w2 A [o0, o1, o2, o3, o4]) (hR : Blk w2 R [r0, r1, r2, r3, r4])
    (h1 : R ≠ A) (h2 : b ≠ A) (h4 : w.heap.size ≤ A) (hr : Rd w2 b s z S e d) (T : Sy.Tr) {a : Option Addr} {l c : Nat} (hk : Kids w2 (Fr lo A) (.slice a l c) T.kids) (hkp : Kp b w w2)
    (kk pp nn : Int) (xx : ByteArray) (e1 : kk = T.kind) (e2 : pp = T.pos) (e3 : xx = ⟨T.name.toArray⟩) (e4 : nn = T.num) :
    ∃ W, ((((w2.setCell ⟨A, 0, none⟩ (.int .i64 kk)).setCell ⟨A, 1, none⟩ (.int .i64 pp)).setCell ⟨A, 2, none⟩ (.string xx)).setCell ⟨A, 3, none⟩ (.int .i64 nn)).setCell ⟨A, 4, none⟩ (.slice a l c) = W ∧ Hid (Lv w b A R lo s z (T, S) e d W) := by
  subst e1 e2 e3 e4
  refine ⟨_, rfl, ⟨a, l, c, hA.store _ _ _ _ _, ?_⟩, ⟨r0, r1, r2, r3, r4, hR.of_heap (sto5_heap _ _ _ _ _ _ _ _ h1)⟩, hr.of_heap (sto5_heap _ _ _ _ _ _ _ _ h2), sto5_kp hkp h4 _ _ _ _ _⟩
  exact hk.carry (fun g hg _ => sto5_heap _ _ _ _ _ _ _ _ hg.2) (fun g hg _ => hg)

theorem kids_newH {w1 w2 : World} {F : Nat → Prop} {ty : TypeId} (H : Nat) (hH : w1.heap.size = H) (l : List (Sy.Tr × Value)) (h0 : l ≠ []) (hF : F H) (hk : ∀ p ∈ l, Kids w1 F p.2 p.1.kids) (cs : Array Value) (hcs : cs = (rowCells l).toArray) (n : Nat) (hn : n = l.length)
    (hb : Below (w1.alloc (.cells cs ty)).heap.size (w1.alloc (.cells cs ty)) w2) : Kids w2 F (.slice (some ⟨H, 0, none⟩) n n) (l.map (·.1)) := by
  subst hH
  exact kids_new l h0 hF hk cs hcs n hn hb

def Two (w : World) (F : Nat → Prop) (T1 T2 : Sy.Tr) (x : List UInt8) (en : Ending) (w' : World) : Prop :=
  ∃ g, en = .returned (.agg #[.int .i64 18, .int .i64 T1.pos, .string ⟨x.toArray⟩, .int .i64 0, .slice (some ⟨g, 0, none⟩) 2 2]) ∧ Hid (Kids w' F (.slice (some ⟨g, 0, none⟩) 2 2) [T1, T2]) ∧ Hid (Below w.heap.size w w')

set_option maxRecDepth 100000 in
set_option maxHeartbeats 2000000 in
theorem two_m (w : World) (F : Nat → Prop) (T1 T2 : Sy.Tr) (x : List UInt8) (a1 a2 : Option Addr) (l1 c1 l2 c2 : Nat) (hF : ∀ g, w.heap.size ≤ g → F g) (h1 : Kids w F (.slice a1 l1 c1) T1.kids) (h2 : Kids w F (.slice a2 l2 c2) T2.kids) :
    Calls Tryz.prog 136 #[.string ⟨x.toArray⟩, .agg #[.int .i64 T1.kind, .int .i64 T1.pos, .string ⟨T1.name.toArray⟩, .int .i64 T1.num, .slice a1 l1 c1], .agg #[.int .i64 T2.kind, .int .i64 T2.pos, .string ⟨T2.name.toArray⟩, .int .i64 T2.num, .slice a2 l2 c2]] w
      fun en w' => Two w F T1 T2 x en w' := by
  have HF := hid hF
  have H1 := hid h1
  have H2 := hid h2
  clear hF h1 h2
  go_enter Tryz.func136, Tryz.ntmps136
  go_wp2_with fail
  refine (named_m _ _ _ _ _ _ _).mono ?_
  rintro en w1 ⟨rfl, HB1⟩
  have HK := hid (kids_newH (F := fun g => F g ∧ g ≠ w.heap.size + 1 + 1) (w.heap.size + 1 + 1 + 1) (by simp) [(T1, .slice a1 l1 c1), (T2, .slice a2 l2 c2)] (by simp) ⟨HF.out _ (by omega), by omega⟩ (by
    have hb : Below w.heap.size w (((w.alloc (.cells #[.int .i64 T1.kind, .int .i64 T1.pos, .string ⟨T1.name.toArray⟩, .int .i64 T1.num, .slice a1 l1 c1] 24)).alloc (.cells #[.int .i64 T2.kind, .int .i64 T2.pos, .string ⟨T2.name.toArray⟩, .int .i64 T2.num, .slice a2 l2 c2] 24)).alloc (.cells #[.int .i64 0, .int .i64 0, .string ⟨#[]⟩, .int .i64 0, .slice none 0 0] 24)) :=
      (((Below.refl _ _).alloc (Nat.le_refl _) _).alloc (by simp) _).alloc (by simp; omega) _
    intro p hp
    simp only [List.mem_cons, List.not_mem_nil, or_false] at hp
    rcases hp with rfl | rfl
    · exact (H1.out.weak (fun g hg hlt => ⟨hg, by omega⟩)).pastF hb
    · exact (H2.out.weak (fun g hg hlt => ⟨hg, by omega⟩)).pastF hb) _ rfl 2 rfl HB1.out)
  have HR : Hid (Blk w1 (w.heap.size + 1 + 1) [.int .i64 0, .int .i64 0, .string ⟨#[]⟩, .int .i64 0, .slice none 0 0]) := by
    have h := Blk.new ((w.alloc (.cells #[.int .i64 T1.kind, .int .i64 T1.pos, .string ⟨T1.name.toArray⟩, .int .i64 T1.num, .slice a1 l1 c1] 24)).alloc (.cells #[.int .i64 T2.kind, .int .i64 T2.pos, .string ⟨T2.name.toArray⟩, .int .i64 T2.num, .slice a2 l2 c2] 24)) [.int .i64 0, .int .i64 0, .string ⟨#[]⟩, .int .i64 0, .slice none 0 0] 24
    rw [show ((w.alloc (.cells #[.int .i64 T1.kind, .int .i64 T1.pos, .string ⟨T1.name.toArray⟩, .int .i64 T1.num, .slice a1 l1 c1] 24)).alloc (.cells #[.int .i64 T2.kind, .int .i64 T2.pos, .string ⟨T2.name.toArray⟩, .int .i64 T2.num, .slice a2 l2 c2] 24)).heap.size = w.heap.size + 1 + 1 by simp] at h
    exact (h.alloc _).past HB1.out
  have HBL : Hid (Below w.heap.size w w1) := (((((Below.refl _ _).alloc (Nat.le_refl _) _).alloc (by simp) _).alloc (by simp; omega) _).alloc (by simp; omega) _).trans (HB1.out.mono (by simp; omega))
  obtain ⟨⟨u0, u1, u2, u3, u4⟩, u5, u6, u7, u8, u9⟩ := blk5 HR.out
  go_wp2_with fail
  refine bodyPost_ret (v := .agg #[.int .i64 18, .int .i64 T1.pos, .string ⟨x.toArray⟩, .int .i64 0, .slice (some ⟨w.heap.size + 1 + 1 + 1, 0, none⟩) 2 2]) (by simp [results, Tryz.results136, go_sem, u0, u1, u2, u3, u4]) rfl ?_
  refine ⟨_, rfl, HK.out.carry (fun g hg _ => sto5_heap w1 (w.heap.size + 1 + 1) _ _ _ _ _ _ hg.2) (fun g hg _ => hg.1), ?_⟩
  exact ((((HBL.out.setCell (by show w.heap.size ≤ w.heap.size + 1 + 1; omega) _).setCell (by show w.heap.size ≤ w.heap.size + 1 + 1; omega) _).setCell (by show w.heap.size ≤ w.heap.size + 1 + 1; omega) _).setCell (by show w.heap.size ≤ w.heap.size + 1 + 1; omega) _).setCell (by show w.heap.size ≤ w.heap.size + 1 + 1; omega) _
end Go.Proofs.YtedppdcknkcbjaaGreatDoor

namespace Go.Proofs.YtedppdcknkcbjaaGreatDoor
open Go.RowKit

set_option maxRecDepth 100000 in
set_option maxHeartbeats 4000000 in
theorem app_m (N k : Nat) (hE : ExprOK N k) (hS : SquareOK N k) (w : World) (b : Nat) (s : ByteArray) (z : Sy.Env) (S : Sy.RS) (d : Nat) (h : Rd w b s z S (200 - k) d) (hm : Sy.mu S < N) :
    Calls Tryz.prog 161 #[.pointer (some ⟨b, 0, none⟩)] w fun en w' => NRes w b s z (Sy.appA z N (Sy.exprA z N k) S) (200 - k) d en w' := by
  obtain ⟨p, hb, _⟩ := h.cells
  have H := hid h
  have HM := hid hm
  have hlt := h.lt
  have c2 := (hb 2 _ rfl).1
  clear h hb hm
  cases h1 : Sy.isA Sy.w_do S with
  | true =>
    go_enter Tryz.func161, Tryz.ntmps161
    go_wp2_with fail
    obtain ⟨W0, hW0, HI⟩ := in1 H.out 24
    rw [hW0]
    have HW0 := hid hW0
    clear hW0
    have hz0 := HI.out.size
    have HX : Hid (Sy.appA z N (Sy.exprA z N k) S = (Sy.nm 19 S.t.pos (Sy.nameA z (Sy.nextA z S)).1.1 [(Sy.atomA z N (Sy.exprA z N k) (Sy.nameA z (Sy.nextA z S)).2).1], (Sy.atomA z N (Sy.exprA z N k) (Sy.nameA z (Sy.nextA z S)).2).2)) := by simp [Hid, Sy.appA, h1]
    have HMA : Hid (Sy.mu (Sy.nameA z (Sy.nextA z S)).2 < N) := Nat.lt_of_le_of_lt (Sy.mu_name z _) (Nat.lt_trans (Sy.mu_is z h1) HM.out)
    refine (has_yes _ b s z S (200 - k) d Sy.w_do HI.out.rd h1).mono ?_
    rintro en w1 ⟨rfl, hr1, hk1⟩
    have HR1 := hid hr1
    have HK1 := hid hk1
    clear hr1 hk1
    have HRS1 := hid (HI.out.one.kp HK1.out (by omega))
    have HKA1 := hid (HI.out.kp.trans HK1.out)
    have ht1 := HK1.out.size
    go_wp2_with fail
    refine (name_m _ b s z (Sy.nextA z S) (200 - k) d HR1.out).mono ?_
    rintro en w2 ⟨rfl, hr2, hk2⟩
    have HR2 := hid hr2
    have HK2 := hid hk2
    clear hr2 hk2
    have HRS2 := hid (HRS1.out.kp HK2.out (by omega))
    have HKA2 := hid (HKA1.out.trans HK2.out)
    have ht2 := HK2.out.size
    generalize hq : Sy.nameA z (Sy.nextA z S) = q at *
    have HQ := hid hq
    clear hq
    go_wp2_with fail
    refine (atom_m N k hE hS w2 b s z q.2 d HR2.out HMA.out).mono ?_
    rintro en w3 ⟨a3, l3, c3, rfl, HKd3, HR3, HK3⟩
    generalize hy3 : Sy.atomA z N (Sy.exprA z N k) q.2 = y3 at *
    have HY3 := hid hy3
    clear hy3
    obtain ⟨W3, hW3, HV3, HRd3, HKp3, hs3, ht3⟩ := var_new HKd3.out HR3.out HK3.out 24
    have HRS3 := hid (HRS2.out.kp HKp3.out (by omega))
    have HKA3 := hid (HKA2.out.trans HKp3.out)
    obtain ⟨⟨q3_0, q3_1, q3_2, q3_3, q3_4⟩, q3_5, q3_6, q3_7, q3_8, q3_9⟩ := blk5 HV3.out.cells
    go_wp2_with fail
    try rw [hW3]
    clear hW3
    refine (named_m _ _ _ _ _ _ _).mono ?_
    rintro en w4 ⟨rfl, HB4⟩
    have HKN4 := hid (kids_new (F := (fun g => W0.heap.size ≤ g)) [(y3.1, .slice a3 l3 c3)] (by simp) (by show W0.heap.size ≤ _; omega) (by intro p hp; simp only [List.mem_cons, or_false, List.not_mem_nil] at hp; rcases hp with rfl <;> first | exact HV3.out.kids.free (by omega)) _ rfl 1 rfl HB4.out)
    have HV3x4 := hid (HV3.out.past (Below.trans ((Below.refl _ _).alloc (Nat.le_refl _) _) (HB4.out.mono (by simp))))
    have HRS4 := hid (HRS3.out.past (Below.trans ((Below.refl _ _).alloc (Nat.le_refl _) _) (HB4.out.mono (by simp))))
    have HKA4 := hid (HKA3.out.below (Below.trans ((Below.refl _ _).alloc (Nat.le_refl _) _) (HB4.out.mono (by simp))))
    have HR4 := hid ((HRd3.out.alloc _).below HB4.out ((HRd3.out.alloc _).lt))
    obtain ⟨⟨u0, u1, u2, u3, u4⟩, u5, u6, u7, u8, u9⟩ := blk5 HRS4.out
    go_wp2_with fail
    refine bodyPost_ret (v := .agg #[.int .i64 19, .int .i64 S.t.pos, .string ⟨q.1.1.toArray⟩, .int .i64 0, .slice (some ⟨W3.heap.size, 0, none⟩) 1 1]) (by simp [results, Tryz.results161, go_sem, u0, u1, u2, u3, u4]) rfl ?_
    exact nres_fin (lo := W0.heap.size) (Sy.nm 19 S.t.pos q.1.1 [y3.1]) y3.2 HKN4.out HR4.out HKA4.out HX.out (by omega) (by omega) (by omega) _ _ _ _ rfl rfl rfl rfl _ _ _ _ _
  | false =>
    cases h2 : Sy.isA Sy.w_fst S with
    | true =>
      go_enter Tryz.func161, Tryz.ntmps161
      go_wp2_with fail
      obtain ⟨W0, hW0, HI⟩ := in1 H.out 24
      rw [hW0]
      have HW0 := hid hW0
      clear hW0
      have hz0 := HI.out.size
      refine (has_no _ b s z S (200 - k) d Sy.w_do HI.out.rd h1).mono ?_
      rintro en w' ⟨rfl, rfl⟩
      go_wp2_with fail
      have HX : Hid (Sy.appA z N (Sy.exprA z N k) S = (Sy.nd 13 S.t.pos [(Sy.atomA z N (Sy.exprA z N k) (Sy.nextA z S)).1], (Sy.atomA z N (Sy.exprA z N k) (Sy.nextA z S)).2)) := by simp [Hid, Sy.appA, h1, h2]
      have HMA : Hid (Sy.mu (Sy.nextA z S) < N) := Nat.lt_trans (Sy.mu_is z h2) HM.out
      refine (has_yes _ b s z S (200 - k) d Sy.w_fst HI.out.rd h2).mono ?_
      rintro en w1 ⟨rfl, hr1, hk1⟩
      have HR1 := hid hr1
      have HK1 := hid hk1
      clear hr1 hk1
      have HRS1 := hid (HI.out.one.kp HK1.out (by omega))
      have HKA1 := hid (HI.out.kp.trans HK1.out)
      have ht1 := HK1.out.size
      go_wp2_with fail
      refine (atom_m N k hE hS w1 b s z (Sy.nextA z S) d HR1.out HMA.out).mono ?_
      rintro en w2 ⟨a2, l2, c2, rfl, HKd2, HR2, HK2⟩
      generalize hy2 : Sy.atomA z N (Sy.exprA z N k) (Sy.nextA z S) = y2 at *
      have HY2 := hid hy2
      clear hy2
      obtain ⟨W2, hW2, HV2, HRd2, HKp2, hs2, ht2⟩ := var_new HKd2.out HR2.out HK2.out 24
      have HRS2 := hid (HRS1.out.kp HKp2.out (by omega))
      have HKA2 := hid (HKA1.out.trans HKp2.out)
      obtain ⟨⟨q2_0, q2_1, q2_2, q2_3, q2_4⟩, q2_5, q2_6, q2_7, q2_8, q2_9⟩ := blk5 HV2.out.cells
      go_wp2_with fail
      try rw [hW2]
      clear hW2
      refine (node_m _ _ _ _ _ _).mono ?_
      rintro en w3 ⟨rfl, HB3⟩
      have HKN3 := hid (kids_new (F := (fun g => W0.heap.size ≤ g)) [(y2.1, .slice a2 l2 c2)] (by simp) (by show W0.heap.size ≤ _; omega) (by intro p hp; simp only [List.mem_cons, or_false, List.not_mem_nil] at hp; rcases hp with rfl <;> first | exact HV2.out.kids.free (by omega)) _ rfl 1 rfl HB3.out)
      have HV2x3 := hid (HV2.out.past (Below.trans ((Below.refl _ _).alloc (Nat.le_refl _) _) (HB3.out.mono (by simp))))
      have HRS3 := hid (HRS2.out.past (Below.trans ((Below.refl _ _).alloc (Nat.le_refl _) _) (HB3.out.mono (by simp))))
      have HKA3 := hid (HKA2.out.below (Below.trans ((Below.refl _ _).alloc (Nat.le_refl _) _) (HB3.out.mono (by simp))))
      have HR3 := hid ((HRd2.out.alloc _).below HB3.out ((HRd2.out.alloc _).lt))
      obtain ⟨⟨u0, u1, u2, u3, u4⟩, u5, u6, u7, u8, u9⟩ := blk5 HRS3.out
      go_wp2_with fail
      refine bodyPost_ret (v := .agg #[.int .i64 13, .int .i64 S.t.pos, .string ⟨#[]⟩, .int .i64 0, .slice (some ⟨W2.heap.size, 0, none⟩) 1 1]) (by simp [results, Tryz.results161, go_sem, u0, u1, u2, u3, u4]) rfl ?_
      exact nres_fin (lo := W0.heap.size) (Sy.nd 13 S.t.pos [y2.1]) y2.2 HKN3.out HR3.out HKA3.out HX.out (by omega) (by omega) (by omega) _ _ _ _ rfl rfl rfl rfl _ _ _ _ _
    | false =>
      cases h3 : Sy.isA Sy.w_snd S with
      | true =>
        go_enter Tryz.func161, Tryz.ntmps161
        go_wp2_with fail
        obtain ⟨W0, hW0, HI⟩ := in1 H.out 24
        rw [hW0]
        have HW0 := hid hW0
        clear hW0
        have hz0 := HI.out.size
        refine (has_no _ b s z S (200 - k) d Sy.w_do HI.out.rd h1).mono ?_
        rintro en w' ⟨rfl, rfl⟩
        go_wp2_with fail
        refine (has_no _ b s z S (200 - k) d Sy.w_fst HI.out.rd h2).mono ?_
        rintro en w' ⟨rfl, rfl⟩
        go_wp2_with fail
        have HX : Hid (Sy.appA z N (Sy.exprA z N k) S = (Sy.nd 14 S.t.pos [(Sy.atomA z N (Sy.exprA z N k) (Sy.nextA z S)).1], (Sy.atomA z N (Sy.exprA z N k) (Sy.nextA z S)).2)) := by simp [Hid, Sy.appA, h1, h2, h3]
        have HMA : Hid (Sy.mu (Sy.nextA z S) < N) := Nat.lt_trans (Sy.mu_is z h3) HM.out
        refine (has_yes _ b s z S (200 - k) d Sy.w_snd HI.out.rd h3).mono ?_
        rintro en w1 ⟨rfl, hr1, hk1⟩
        have HR1 := hid hr1
        have HK1 := hid hk1
        clear hr1 hk1
        have HRS1 := hid (HI.out.one.kp HK1.out (by omega))
        have HKA1 := hid (HI.out.kp.trans HK1.out)
        have ht1 := HK1.out.size
        go_wp2_with fail
        refine (atom_m N k hE hS w1 b s z (Sy.nextA z S) d HR1.out HMA.out).mono ?_
        rintro en w2 ⟨a2, l2, c2, rfl, HKd2, HR2, HK2⟩
        generalize hy2 : Sy.atomA z N (Sy.exprA z N k) (Sy.nextA z S) = y2 at *
        have HY2 := hid hy2
        clear hy2
        obtain ⟨W2, hW2, HV2, HRd2, HKp2, hs2, ht2⟩ := var_new HKd2.out HR2.out HK2.out 24
        have HRS2 := hid (HRS1.out.kp HKp2.out (by omega))
        have HKA2 := hid (HKA1.out.trans HKp2.out)
        obtain ⟨⟨q2_0, q2_1, q2_2, q2_3, q2_4⟩, q2_5, q2_6, q2_7, q2_8, q2_9⟩ := blk5 HV2.out.cells
        go_wp2_with fail
        try rw [hW2]
        clear hW2
        refine (node_m _ _ _ _ _ _).mono ?_
        rintro en w3 ⟨rfl, HB3⟩
        have HKN3 := hid (kids_new (F := (fun g => W0.heap.size ≤ g)) [(y2.1, .slice a2 l2 c2)] (by simp) (by show W0.heap.size ≤ _; omega) (by intro p hp; simp only [List.mem_cons, or_false, List.not_mem_nil] at hp; rcases hp with rfl <;> first | exact HV2.out.kids.free (by omega)) _ rfl 1 rfl HB3.out)
        have HV2x3 := hid (HV2.out.past (Below.trans ((Below.refl _ _).alloc (Nat.le_refl _) _) (HB3.out.mono (by simp))))
        have HRS3 := hid (HRS2.out.past (Below.trans ((Below.refl _ _).alloc (Nat.le_refl _) _) (HB3.out.mono (by simp))))
        have HKA3 := hid (HKA2.out.below (Below.trans ((Below.refl _ _).alloc (Nat.le_refl _) _) (HB3.out.mono (by simp))))
        have HR3 := hid ((HRd2.out.alloc _).below HB3.out ((HRd2.out.alloc _).lt))
        obtain ⟨⟨u0, u1, u2, u3, u4⟩, u5, u6, u7, u8, u9⟩ := blk5 HRS3.out
        go_wp2_with fail
        refine bodyPost_ret (v := .agg #[.int .i64 14, .int .i64 S.t.pos, .string ⟨#[]⟩, .int .i64 0, .slice (some ⟨W2.heap.size, 0, none⟩) 1 1]) (by simp [results, Tryz.results161, go_sem, u0, u1, u2, u3, u4]) rfl ?_
        exact nres_fin (lo := W0.heap.size) (Sy.nd 14 S.t.pos [y2.1]) y2.2 HKN3.out HR3.out HKA3.out HX.out (by omega) (by omega) (by omega) _ _ _ _ rfl rfl rfl rfl _ _ _ _ _
      | false =>
        go_enter Tryz.func161, Tryz.ntmps161
        go_wp2_with fail
        obtain ⟨W0, hW0, HI⟩ := in1 H.out 24
        rw [hW0]
        have HW0 := hid hW0
        clear hW0
        have hz0 := HI.out.size
        refine (has_no _ b s z S (200 - k) d Sy.w_do HI.out.rd h1).mono ?_
        rintro en w' ⟨rfl, rfl⟩
        go_wp2_with fail
        refine (has_no _ b s z S (200 - k) d Sy.w_fst HI.out.rd h2).mono ?_
        rintro en w' ⟨rfl, rfl⟩
        go_wp2_with fail
        refine (has_no _ b s z S (200 - k) d Sy.w_snd HI.out.rd h3).mono ?_
        rintro en w' ⟨rfl, rfl⟩
        go_wp2_with fail
        have HT : Hid (Sy.appA z N (Sy.exprA z N k) S = Sy.appsA z N (Sy.exprA z N k) N (Sy.atomA z N (Sy.exprA z N k) S).1 (Sy.atomA z N (Sy.exprA z N k) S).2) := by simp [Hid, Sy.appA, h1, h2, h3]
        have HMY : Hid (Sy.mu (Sy.atomA z N (Sy.exprA z N k) S).2 < N) := Nat.lt_of_le_of_lt (Sy.mu_atom z N (Sy.mu_expr z N k) S).1 HM.out
        refine (atom_m N k hE hS W0 b s z S d HI.out.rd HM.out).mono ?_
        rintro en w1 ⟨a1, l1, c1, rfl, HKd1, HR1, HK1⟩
        generalize hy1 : Sy.atomA z N (Sy.exprA z N k) S = y1 at *
        have HY1 := hid hy1
        clear hy1
        obtain ⟨W1, hW1, HV1, HRd1, HKp1, hs1, ht1⟩ := var_new HKd1.out HR1.out HK1.out 24
        have HRS1 := hid (HI.out.one.kp HKp1.out (by omega))
        have HKA1 := hid (HI.out.kp.trans HKp1.out)
        go_wp2_with fail
        try rw [hW1]
        clear hW1
        have HL : Hid (Lv w b w1.heap.size w.heap.size W0.heap.size s z y1 (200 - k) d W1) := ⟨⟨a1, l1, c1, HV1.out⟩, ⟨_, _, _, _, _, HRS1.out⟩, HRd1.out, HKA1.out⟩
        go_loopg [] N (fun n wr => ∃ x : Sy.Tr × Sy.RS, Hid (Lv w b w1.heap.size w.heap.size W0.heap.size s z x (200 - k) d wr) ∧ Hid (Sy.appsA z N (Sy.exprA z N k) n x.1 x.2 = Sy.appA z N (Sy.exprA z N k) S) ∧ Hid (Sy.mu x.2 < n) ∧ Hid (Sy.mu x.2 < N))
        case atStart => exact ⟨y1, HL, by rw [Hid, HT.out], HMY.out, HMY.out⟩
        case round =>
          obtain ⟨x, HL, HE, HMX, HMX2⟩ := hrel
          obtain ⟨m, hm⟩ : ∃ m, gk = m + 1 := ⟨gk - 1, by have := HMX.out; omega⟩
          subst hm
          obtain ⟨a, l, c, HVA0⟩ := HL.out.var
          have HVA := hid HVA0
          clear HVA0
          obtain ⟨r0, r1, r2, r3, r4, HRSA0⟩ := HL.out.res
          have HRSA := hid HRSA0
          clear HRSA0
          have hAr := HVA.out.lt
          have hkz := HL.out.kp.size
          have HMN := HMX2
          cases hl : Sy.beginsA x.2 with
          | false =>
            have HX : Hid (Sy.appA z N (Sy.exprA z N k) S = (x.1, x.2)) := by rw [Hid, ← HE.out, Sy.appsA]; simp [hl]
            obtain ⟨⟨qA_0, qA_1, qA_2, qA_3, qA_4⟩, qA_5, qA_6, qA_7, qA_8, qA_9⟩ := blk5 HVA.out.cells
            go_wp2_with fail
            refine (begins_m _ b s z x.2 (200 - k) d HL.out.rd).mono ?_
            rintro en w' ⟨rfl, rfl⟩
            obtain ⟨⟨u0, u1, u2, u3, u4⟩, u5, u6, u7, u8, u9⟩ := blk5 HRSA.out
            go_wp2_with fail
            refine bodyPost_ret (v := .agg #[.int .i64 x.1.kind, .int .i64 x.1.pos, .string ⟨x.1.name.toArray⟩, .int .i64 x.1.num, .slice a l c]) (by simp [results, Tryz.results161, go_sem, u0, u1, u2, u3, u4]) rfl ?_
            exact nres_fin (lo := W0.heap.size) x.1 x.2 (HVA.out.kids.free (Nat.le_refl _)) HL.out.rd HL.out.kp HX.out (by omega) (by omega) (by omega) _ _ _ _ rfl rfl rfl rfl _ _ _ _ _
          | true =>
            have HX : Hid (Sy.appsA z N (Sy.exprA z N k) m (Sy.nd 8 x.1.pos [x.1, (Sy.atomA z N (Sy.exprA z N k) x.2).1]) (Sy.atomA z N (Sy.exprA z N k) x.2).2 = Sy.appA z N (Sy.exprA z N k) S) := by rw [Hid, ← HE.out, Sy.appsA]; simp [hl]
            have HMA : Hid (Sy.mu (Sy.atomA z N (Sy.exprA z N k) x.2).2 < m) := by have h1 := (Sy.mu_atom z N (Sy.mu_expr z N k) x.2).2 hl; have h2 := HMX.out; simp only [Hid]; omega
            have HMB : Hid (Sy.mu x.2 < N) := HMN.out
            have HMC : Hid (Sy.mu (Sy.atomA z N (Sy.exprA z N k) x.2).2 < N) := Nat.lt_of_le_of_lt (Sy.mu_atom z N (Sy.mu_expr z N k) x.2).1 HMN.out
            go_wp2_with fail
            refine (begins_m _ b s z x.2 (200 - k) d HL.out.rd).mono ?_
            rintro en w' ⟨rfl, rfl⟩
            go_wp2_with fail
            refine (atom_m N k hE hS wr b s z x.2 d HL.out.rd HMB.out).mono ?_
            rintro en w21 ⟨a21, l21, c21, rfl, HKd21, HR21, HK21⟩
            generalize hy21 : Sy.atomA z N (Sy.exprA z N k) x.2 = y21 at *
            have HY21 := hid hy21
            clear hy21
            obtain ⟨W21, hW21, HV21, HRd21, HKp21, hs21, ht21⟩ := var_new HKd21.out HR21.out HK21.out 24
            have HVAx21 := hid (HVA.out.kp HKp21.out (by omega) (by omega))
            have HRS21 := hid (HRSA.out.kp HKp21.out (by omega))
            have HKA21 := hid (HL.out.kp.trans HKp21.out)
            obtain ⟨⟨qA_0, qA_1, qA_2, qA_3, qA_4⟩, qA_5, qA_6, qA_7, qA_8, qA_9⟩ := blk5 HVAx21.out.cells
            obtain ⟨⟨q21_0, q21_1, q21_2, q21_3, q21_4⟩, q21_5, q21_6, q21_7, q21_8, q21_9⟩ := blk5 HV21.out.cells
            go_wp2_with fail
            try rw [hW21]
            clear hW21
            refine (node_m _ _ _ _ _ _).mono ?_
            rintro en w22 ⟨rfl, HB22⟩
            have HKN22 := hid (kids_new (F := (Fr W0.heap.size w1.heap.size)) [(x.1, .slice a l c), (y21.1, .slice a21 l21 c21)] (by simp) (by exact ⟨by omega, by omega⟩) (by intro p hp; simp only [List.mem_cons, or_false, List.not_mem_nil] at hp; rcases hp with rfl | rfl <;> first | exact HVAx21.out.kids | exact HV21.out.kids.weak (fun g hg _ => ⟨by have := hg.1; omega, by have := hg.1; omega⟩)) _ rfl 2 rfl HB22.out)
            have HVAx22 := hid (HVAx21.out.past (Below.trans ((Below.refl _ _).alloc (Nat.le_refl _) _) (HB22.out.mono (by simp))))
            have HV21x22 := hid (HV21.out.past (Below.trans ((Below.refl _ _).alloc (Nat.le_refl _) _) (HB22.out.mono (by simp))))
            have HRS22 := hid (HRS21.out.past (Below.trans ((Below.refl _ _).alloc (Nat.le_refl _) _) (HB22.out.mono (by simp))))
            have HKA22 := hid (HKA21.out.below (Below.trans ((Below.refl _ _).alloc (Nat.le_refl _) _) (HB22.out.mono (by simp))))
            have HR22 := hid ((HRd21.out.alloc _).below HB22.out ((HRd21.out.alloc _).lt))
            have HAC23 := hid HVAx22.out.cells
            obtain ⟨⟨v0, v1, v2, v3, v4⟩, v5, v6, v7, v8, v9⟩ := blk5 HAC23.out
            obtain ⟨V23, hV23, HL23⟩ := lv_put (w := w) (lo := W0.heap.size) HAC23.out HRS22.out (by omega) (by omega) (by omega) HR22.out (Sy.nd 8 x.1.pos [x.1, y21.1]) HKN22.out HKA22.out 8 x.1.pos 0 ⟨#[]⟩ rfl rfl rfl rfl
            try simp only [hs21] at hV23
            have HVV23 := hid hV23
            clear hV23
            go_wp2_with fail
            rw [HVV23.out]
            go_roundg m
            case measure => omega
            case rel => exact ⟨_, HL23, HX, HMA, HMC⟩
end Go.Proofs.YtedppdcknkcbjaaGreatDoor
