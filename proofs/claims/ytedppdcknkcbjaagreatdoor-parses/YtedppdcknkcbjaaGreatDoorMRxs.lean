/-
  What the document's reader of programs does: prog.
-/
import Derived.Test.YtedppdcknkcbjaaGreatDoorMRxq
set_option linter.unusedVariables false
set_option linter.unusedSimpArgs false
namespace Go.Proofs.YtedppdcknkcbjaaGreatDoor
open Go.RowKit

set_option maxRecDepth 100000 in
set_option maxHeartbeats 8000000 in
theorem prog_m (N : Nat) (hN : N ≤ 30000) (w : World) (b : Nat) (s : ByteArray) (z : Sy.Env) (S : Sy.RS) (h : Rd w b s z S 0 0) (hm : Sy.mu S < N) :
    Calls Tryz.prog 16 #[.pointer (some ⟨b, 0, none⟩)] w fun en w' => NRes w b s z (Sy.progA z N S) 0 0 en w' := by
  have H := hid h
  have HM := hid hm
  have hlt := h.lt
  clear h hm
  have HE := hid (expr_all N (by omega) 200 (Nat.le_refl _))
  have HTY := hid (typ_all N (by omega) 200 (Nat.le_refl _))
  obtain ⟨i0, hi, hiz0, hiz1, hiz2⟩ := info_parts Tryz.info36
  go_enter Tryz.func16, Tryz.ntmps16
  go_wp2_with fail
  obtain ⟨W0, hW0, HI⟩ := in1 H.out 24
  rw [hW0]
  have HW0 := hid hW0
  clear hW0
  have hz0 := HI.out.size
  refine (node_m _ _ _ _ _ _).mono ?_
  rintro en w1 ⟨rfl, HB1⟩
  have HRS1 := hid (HI.out.one.past HB1.out)
  have HKA1 := hid (HI.out.kp.below HB1.out)
  have HR1 := hid (HI.out.rd.below HB1.out HI.out.rd.lt)
  have ht1 := HB1.out.size
  have HP0 := hid (Blk.new w1 [.int .i64 0, .int .i64 0, .string ⟨#[]⟩, .int .i64 0, .slice none 0 0] 24)
  have HAL := hid (Below.alloc (Below.refl w1.heap.size w1) (Nat.le_refl _) (.cells #[.int .i64 0, .int .i64 0, .string ⟨#[]⟩, .int .i64 0, .slice none 0 0] 24))
  have HRa := hid (HR1.out.alloc (.cells #[.int .i64 0, .int .i64 0, .string ⟨#[]⟩, .int .i64 0, .slice none 0 0] 24))
  have HRS1 := hid (HRS1.out.past HAL.out)
  have HKA1 := hid (HKA1.out.below HAL.out)
  have hs1 : (w1.alloc (.cells #[.int .i64 0, .int .i64 0, .string ⟨#[]⟩, .int .i64 0, .slice none 0 0] 24)).heap.size = w1.heap.size + 1 := by simp
  go_wp2_with fail
  generalize hW1 : w1.alloc (.cells #[.int .i64 0, .int .i64 0, .string ⟨#[]⟩, .int .i64 0, .slice none 0 0] 24) = W1 at *
  clear hW1
  have HL : Hid (Pg w b w1.heap.size w.heap.size W1.heap.size s z S 0 (.slice none 0 0) [] W1) := ⟨RowS.nil _ _, HP0.out, ⟨_, _, _, _, _, HRS1.out⟩, HRa.out, HKA1.out, Nat.le_refl _⟩
  go_loopg [] N (fun n wr => ∃ (ls : List (Sy.Tr × Value)) (v : Value) (S1 : Sy.RS), Hid (Pg w b w1.heap.size w.heap.size W1.heap.size s z S1 ls.length v ls wr) ∧ Hid (Sy.opsA z N n (ls.map (·.1)) S1 = Sy.opsA z N N [] S) ∧ Hid (Sy.mu S1 < N) ∧ Hid (Sy.mu S1 < n) ∧ Hid (ls.length + n = N))
  case atStart => exact ⟨[], _, S, HL, hid rfl, HM, HM, hid (by simp)⟩
  case round =>
    obtain ⟨ls, v, S1, HLr, HEQ, HMS, HMN, HLN⟩ := hrel
    obtain ⟨m, hm⟩ : ∃ m, gk = m + 1 := ⟨gk - 1, by have := HMN.out; omega⟩
    subst hm
    have hzr := HLr.out.size
    have HLB := hid (len_bytes (n := ls.length) (N := N) (by have := HLN.out; omega) (by omega))
    cases hop : Sy.isA Sy.w_op S1 with
    | true =>
      cases ho : Sy.isA Sy.w_once (Sy.nextA z S1) with
      | true =>
        obtain ⟨r0, r1, r2, r3, r4, HRSA0⟩ := HLr.out.res
        have HRSA := hid HRSA0
        clear HRSA0
        have HMA := hid (Sy.mu_is z hop)
        obtain ⟨p21, hb21, _⟩ := HLr.out.rd.cells
        have c21_2 := (hb21 2 _ rfl).1
        clear hb21
        go_wp2_with fail
        refine (is_q _ b s z S1 0 0 Sy.w_op HLr.out.rd).mono ?_
        rintro en w' ⟨rfl, rfl⟩
        go_wp2_with fail
        refine (next_m _ b s z S1 0 0 HLr.out.rd).mono ?_
        rintro en w22 ⟨rfl, hr22, hk22⟩
        have HR22 := hid hr22
        have HK22 := hid hk22
        clear hr22 hk22
        have HRS22 := hid (HRSA.out.kp HK22.out (by omega))
        have HKA22 := hid ((Kp.refl b wr).trans HK22.out)
        have ht22 := HK22.out.size
        generalize hu : Sy.nextA z S1 = u at *
        have HU := hid hu
        clear hu
        go_wp2_with fail
        refine (is_q _ b s z u 0 0 Sy.w_once HR22.out).mono ?_
        rintro en w' ⟨rfl, rfl⟩
        go_wp2_with fail
        refine (next_m _ b s z u 0 0 HR22.out).mono ?_
        rintro en w23 ⟨rfl, hr23, hk23⟩
        have HR23 := hid hr23
        have HK23 := hid hk23
        clear hr23 hk23
        have HRS23 := hid (HRS22.out.kp HK23.out (by omega))
        have HKA23 := hid (HKA22.out.trans HK23.out)
        have ht23 := HK23.out.size
        have HMV := hid (Nat.le_of_lt (Sy.mu_is z ho))
        generalize hv : (Sy.nextA z u) = vv at *
        have HVV := hid hv
        clear hv
        go_wp2_with fail
        refine (name_m _ b s z vv 0 0 HR23.out).mono ?_
        rintro en w24 ⟨rfl, hr24, hk24⟩
        have HR24 := hid hr24
        have HK24 := hid hk24
        clear hr24 hk24
        have HRS24 := hid (HRS23.out.kp HK24.out (by omega))
        have HKA24 := hid (HKA23.out.trans HK24.out)
        have ht24 := HK24.out.size
        have HMq := hid (Sy.mu_name z vv)
        generalize hq : Sy.nameA z vv = q at *
        have HQ := hid hq
        clear hq
        go_wp2_with fail
        refine (must_m _ b s z q.2 0 0 Sy.s_colon HR24.out).mono ?_
        rintro en w25 ⟨rfl, hr25, hk25⟩
        have HR25 := hid hr25
        have HK25 := hid hk25
        clear hr25 hk25
        have HRS25 := hid (HRS24.out.kp HK25.out (by omega))
        have HKA25 := hid (HKA24.out.trans HK25.out)
        have ht25 := HK25.out.size
        go_wp2_with fail
        have HM1 : Hid (Sy.mu (Sy.mustA z Sy.s_colon q.2) < m) := by have h1 := Sy.mu_must z Sy.s_colon q.2; have h2 := HMq.out; have h3 := HMV.out; have h4 := HMA.out; have h5 := HMN.out; simp only [Hid]; omega
        have HM1N : Hid (Sy.mu (Sy.mustA z Sy.s_colon q.2) < N) := by have h1 := HM1.out; have h2 := HLN.out; simp only [Hid]; omega
        refine (HTY.out w25 b s z (Sy.mustA z Sy.s_colon q.2) 0 HR25.out HM1N.out).mono ?_
        rintro en w26 ⟨a26, l26, c26, rfl, HKd26, HR26, HK26⟩
        generalize hy26 : Sy.typA z N 200 (Sy.mustA z Sy.s_colon q.2) = y26 at *
        have HY26 := hid hy26
        clear hy26
        obtain ⟨W26, hW26, HV26, HRd26, HKp26, hs26, ht26⟩ := var_new HKd26.out HR26.out HK26.out 24
        have HRS26 := hid (HRS25.out.kp HKp26.out (by omega))
        have HKA26 := hid (HKA25.out.trans HKp26.out)
        have HMT1 := hid (Sy.mu_typ z N 200 (Sy.mustA z Sy.s_colon q.2))
        rw [HY26.out] at HMT1
        go_wp2_with fail
        try rw [hW26]
        clear hW26
        refine (must_m _ b s z y26.2 0 0 Sy.s_to HRd26.out).mono ?_
        rintro en w27 ⟨rfl, hr27, hk27⟩
        have HR27 := hid hr27
        have HK27 := hid hk27
        clear hr27 hk27
        have HV26x27 := hid (HV26.out.kp HK27.out (by omega) (by omega))
        have HRS27 := hid (HRS26.out.kp HK27.out (by omega))
        have HKA27 := hid (HKA26.out.trans HK27.out)
        have ht27 := HK27.out.size
        go_wp2_with fail
        have HM2 : Hid (Sy.mu (Sy.mustA z Sy.s_to y26.2) < m) := by have h1 := Sy.mu_must z Sy.s_to y26.2; have h2 := HMT1.out; have h3 := HM1.out; simp only [Hid]; omega
        have HM2N : Hid (Sy.mu (Sy.mustA z Sy.s_to y26.2) < N) := by have h1 := HM2.out; have h2 := HLN.out; simp only [Hid]; omega
        refine (HTY.out w27 b s z (Sy.mustA z Sy.s_to y26.2) 0 HR27.out HM2N.out).mono ?_
        rintro en w28 ⟨a28, l28, c28, rfl, HKd28, HR28, HK28⟩
        generalize hy28 : Sy.typA z N 200 (Sy.mustA z Sy.s_to y26.2) = y28 at *
        have HY28 := hid hy28
        clear hy28
        obtain ⟨W28, hW28, HV28, HRd28, HKp28, hs28, ht28⟩ := var_new HKd28.out HR28.out HK28.out 24
        have HV26x28 := hid (HV26x27.out.kp HKp28.out (by omega) (by omega))
        have HRS28 := hid (HRS27.out.kp HKp28.out (by omega))
        have HKA28 := hid (HKA27.out.trans HKp28.out)
        have HMT2 := hid (Sy.mu_typ z N 200 (Sy.mustA z Sy.s_to y26.2))
        rw [HY28.out] at HMT2
        obtain ⟨⟨q26_0, q26_1, q26_2, q26_3, q26_4⟩, q26_5, q26_6, q26_7, q26_8, q26_9⟩ := blk5 HV26x28.out.cells
        obtain ⟨⟨q28_0, q28_1, q28_2, q28_3, q28_4⟩, q28_5, q28_6, q28_7, q28_8, q28_9⟩ := blk5 HV28.out.cells
        go_wp2_with fail
        try rw [hW28]
        clear hW28
        have HNE : Hid (∀ q, wr.heap.size ≤ q → some q ≠ v.ownBlock) := fun q hq e => by have := (HLr.out.row.own.lt q e.symm).2; omega
        have HPG := hid (HLr.out.step HRd28.out HKA28.out (by omega) (by omega) (by omega))
        refine (named_m _ _ _ _ _ _ _).mono ?_
        rintro en w29 ⟨rfl, HB29⟩
        have HKN29 := hid (kids_new (F := (Fo W1.heap.size v)) [(y26.1, .slice a26 l26 c26), (y28.1, .slice a28 l28 c28)] (by simp) (by exact ⟨by omega, HNE.out _ (by omega)⟩) (by intro p hp; simp only [List.mem_cons, or_false, List.not_mem_nil] at hp; rcases hp with rfl | rfl <;> first | exact HV26x28.out.kids.weak (fun q hq _ => ⟨by have := hq.1; omega, HNE.out q (by have := hq.1; omega)⟩) | exact HV28.out.kids.weak (fun q hq _ => ⟨by have := hq.1; omega, HNE.out q (by have := hq.1; omega)⟩)) _ rfl 2 rfl HB29.out)
        have HV26x29 := hid (HV26x28.out.past (Below.trans ((Below.refl _ _).alloc (Nat.le_refl _) _) (HB29.out.mono (by simp))))
        have HV28x29 := hid (HV28.out.past (Below.trans ((Below.refl _ _).alloc (Nat.le_refl _) _) (HB29.out.mono (by simp))))
        have HRS29 := hid (HRS28.out.past (Below.trans ((Below.refl _ _).alloc (Nat.le_refl _) _) (HB29.out.mono (by simp))))
        have HKA29 := hid (HKA28.out.below (Below.trans ((Below.refl _ _).alloc (Nat.le_refl _) _) (HB29.out.mono (by simp))))
        have HR29 := hid ((HRd28.out.alloc _).below HB29.out ((HRd28.out.alloc _).lt))
        have HKZ := HKN29
        rw [hs28] at HKZ
        have HP1 := hid (HPG.out.past (Below.trans ((Below.refl _ _).alloc (Nat.le_refl _) _) (HB29.out.mono (by simp))))
        have HP2 := hid ((HP1.out.past ((Below.refl _ _).alloc (Nat.le_refl _) (.cells #[.int .i64 1, .int .i64 S1.t.pos, .string ⟨q.1.1.toArray⟩, .int .i64 1, .slice (some ⟨w28.heap.size + 1, 0, none⟩) 2 2] 24))).past ((Below.refl _ _).alloc (Nat.le_refl _) (.cells #[.int .i64 1, .int .i64 S1.t.pos, .string ⟨q.1.1.toArray⟩, .int .i64 1, .slice (some ⟨w28.heap.size + 1, 0, none⟩) 2 2] 24)))
        have HNW := hid (node_news (w := w29.alloc (.cells #[.int .i64 1, .int .i64 S1.t.pos, .string ⟨q.1.1.toArray⟩, .int .i64 1, .slice (some ⟨w28.heap.size + 1, 0, none⟩) 2 2] 24)) (T := (Sy.Tr.mk 1 S1.t.pos q.1.1 1 [y26.1, y28.1])) (a := some ⟨w28.heap.size + 1, 0, none⟩) (l := 2) (c := 2) (ty := 24) (H := w29.heap.size + 1) (by simp))
        have hb3 : W1.heap.size ≤ ((w29.alloc (.cells #[.int .i64 1, .int .i64 S1.t.pos, .string ⟨q.1.1.toArray⟩, .int .i64 1, .slice (some ⟨w28.heap.size + 1, 0, none⟩) 2 2] 24)).alloc (.cells #[.int .i64 1, .int .i64 S1.t.pos, .string ⟨q.1.1.toArray⟩, .int .i64 1, .slice (some ⟨w28.heap.size + 1, 0, none⟩) 2 2] 24)).heap.size := HP2.out.size
        obtain ⟨⟨e0, e1, e2, e3, e4⟩, e5, e6, e7, e8, e9⟩ := blk5 HP1.out.cells
        have hlA : w1.heap.size < w29.heap.size := HP1.out.cells.lt
        have hneA1 : ¬ w1.heap.size = w29.heap.size := by omega
        have hneA2 : ¬ w1.heap.size = w29.heap.size + 1 := by omega
        have KQQ : Hid (Kids ((w29.alloc (.cells #[.int .i64 1, .int .i64 S1.t.pos, .string ⟨q.1.1.toArray⟩, .int .i64 1, .slice (some ⟨w28.heap.size + 1, 0, none⟩) 2 2] 24)).alloc (.cells #[.int .i64 1, .int .i64 S1.t.pos, .string ⟨q.1.1.toArray⟩, .int .i64 1, .slice (some ⟨w28.heap.size + 1, 0, none⟩) 2 2] 24)) (Fo W1.heap.size v) (.slice (some ⟨w28.heap.size + 1, 0, none⟩) 2 2) (Sy.Tr.mk 1 S1.t.pos q.1.1 1 [y26.1, y28.1]).kids) := (HKZ.out.pastF ((Below.refl _ _).alloc (Nat.le_refl _) _)).pastF ((Below.refl _ _).alloc (Nat.le_refl _) _)
        have hcn : (ls.length : Int) ≤ 100000 := by have := HLN.out; omega
        go_wp2_with (at_builtin; go_must (refine wpList_append_lies _ rfl _ _ 22 rfl W1.heap.size 24 i0 (.agg #[.int .i64 0, .int .i64 0, .string ⟨#[]⟩, .int .i64 0, .slice none 0 0]) 5 64 Tryz.underlying22 hi hiz0 hiz1 hiz2 rfl (by decide) v ls.length (rowCells ls) rfl HP2.out.row.own ⟨w29.heap.size + 1, 0, none⟩ 1 1 (nodeCells (Sy.Tr.mk 1 S1.t.pos q.1.1 1 [y26.1, y28.1]) (.slice (some ⟨w28.heap.size + 1, 0, none⟩) 2 2)) rfl rfl HNW.out (node_one _ _ _ _) (by decide) HLB.out.1 HLB.out.2 hb3 _ rfl ?_); intro g cap w9 hown hgrow hat hlt3; have HG := hid (HP2.out.grown (T2 := (Sy.Tr.mk 1 S1.t.pos q.1.1 1 [y26.1, y28.1])) (kv := .slice (some ⟨w28.heap.size + 1, 0, none⟩) 2 2) (by omega) (by omega) (by omega) (by omega) hown hgrow hat KQQ.out); obtain ⟨⟨z0, z1, z2, z3, z4⟩, z5, z6, z7, z8, z9⟩ := blk5 HG.out.2.1)
        have HPP := hid ((pg_put HG.out (by omega) (by omega) (by omega) (by omega)).count (ls.length + 1) ((ls.length : Int) + 1) (by omega) (by omega) (by omega) (by omega) (by omega))
        clear z0 z1 z2 z3 z4 z5 z6 z7 z8 z9 hown hgrow hat
        have HEQ2 : Hid (Sy.opsA z N m ((ls ++ [((Sy.Tr.mk 1 S1.t.pos q.1.1 1 [y26.1, y28.1]), (.slice (some ⟨w28.heap.size + 1, 0, none⟩) 2 2 : Value))]).map (·.1)) y28.2 = Sy.opsA z N N [] S) := by
          have h := HEQ.out
          rw [Sy.opsA] at h
          simp only [hop, if_true, HU.out, ho, Bool.true_or, HVV.out, HQ.out, HY26.out, HY28.out] at h
          simp only [Hid, List.map_append, List.map_cons, List.map_nil]
          exact h
        go_roundg m
        case measure => omega
        case rel => exact ⟨ls ++ [((Sy.Tr.mk 1 S1.t.pos q.1.1 1 [y26.1, y28.1]), .slice (some ⟨w28.heap.size + 1, 0, none⟩) 2 2)], _, _, by rw [List.length_append]; exact HPP, HEQ2, Nat.lt_of_le_of_lt HMT2.out HM2N.out, Nat.lt_of_le_of_lt HMT2.out HM2.out, by have := HLN.out; simp only [Hid, List.length_append, List.length_cons, List.length_nil]; omega⟩
      | false =>
        cases hy : Sy.isA Sy.w_many (Sy.nextA z S1) with
        | true =>
          obtain ⟨r0, r1, r2, r3, r4, HRSA0⟩ := HLr.out.res
          have HRSA := hid HRSA0
          clear HRSA0
          have HMA := hid (Sy.mu_is z hop)
          obtain ⟨p21, hb21, _⟩ := HLr.out.rd.cells
          have c21_2 := (hb21 2 _ rfl).1
          clear hb21
          go_wp2_with fail
          refine (is_q _ b s z S1 0 0 Sy.w_op HLr.out.rd).mono ?_
          rintro en w' ⟨rfl, rfl⟩
          go_wp2_with fail
          refine (next_m _ b s z S1 0 0 HLr.out.rd).mono ?_
          rintro en w22 ⟨rfl, hr22, hk22⟩
          have HR22 := hid hr22
          have HK22 := hid hk22
          clear hr22 hk22
          have HRS22 := hid (HRSA.out.kp HK22.out (by omega))
          have HKA22 := hid ((Kp.refl b wr).trans HK22.out)
          have ht22 := HK22.out.size
          generalize hu : Sy.nextA z S1 = u at *
          have HU := hid hu
          clear hu
          go_wp2_with fail
          refine (is_q _ b s z u 0 0 Sy.w_once HR22.out).mono ?_
          rintro en w' ⟨rfl, rfl⟩
          go_wp2_with fail
          refine (is_q _ b s z u 0 0 Sy.w_many HR22.out).mono ?_
          rintro en w' ⟨rfl, rfl⟩
          go_wp2_with fail
          refine (next_m _ b s z u 0 0 HR22.out).mono ?_
          rintro en w23 ⟨rfl, hr23, hk23⟩
          have HR23 := hid hr23
          have HK23 := hid hk23
          clear hr23 hk23
          have HRS23 := hid (HRS22.out.kp HK23.out (by omega))
          have HKA23 := hid (HKA22.out.trans HK23.out)
          have ht23 := HK23.out.size
          have HMV := hid (Nat.le_of_lt (Sy.mu_is z hy))
          generalize hv : (Sy.nextA z u) = vv at *
          have HVV := hid hv
          clear hv
          go_wp2_with fail
          refine (name_m _ b s z vv 0 0 HR23.out).mono ?_
          rintro en w24 ⟨rfl, hr24, hk24⟩
          have HR24 := hid hr24
          have HK24 := hid hk24
          clear hr24 hk24
          have HRS24 := hid (HRS23.out.kp HK24.out (by omega))
          have HKA24 := hid (HKA23.out.trans HK24.out)
          have ht24 := HK24.out.size
          have HMq := hid (Sy.mu_name z vv)
          generalize hq : Sy.nameA z vv = q at *
          have HQ := hid hq
          clear hq
          go_wp2_with fail
          refine (must_m _ b s z q.2 0 0 Sy.s_colon HR24.out).mono ?_
          rintro en w25 ⟨rfl, hr25, hk25⟩
          have HR25 := hid hr25
          have HK25 := hid hk25
          clear hr25 hk25
          have HRS25 := hid (HRS24.out.kp HK25.out (by omega))
          have HKA25 := hid (HKA24.out.trans HK25.out)
          have ht25 := HK25.out.size
          go_wp2_with fail
          have HM1 : Hid (Sy.mu (Sy.mustA z Sy.s_colon q.2) < m) := by have h1 := Sy.mu_must z Sy.s_colon q.2; have h2 := HMq.out; have h3 := HMV.out; have h4 := HMA.out; have h5 := HMN.out; simp only [Hid]; omega
          have HM1N : Hid (Sy.mu (Sy.mustA z Sy.s_colon q.2) < N) := by have h1 := HM1.out; have h2 := HLN.out; simp only [Hid]; omega
          refine (HTY.out w25 b s z (Sy.mustA z Sy.s_colon q.2) 0 HR25.out HM1N.out).mono ?_
          rintro en w26 ⟨a26, l26, c26, rfl, HKd26, HR26, HK26⟩
          generalize hy26 : Sy.typA z N 200 (Sy.mustA z Sy.s_colon q.2) = y26 at *
          have HY26 := hid hy26
          clear hy26
          obtain ⟨W26, hW26, HV26, HRd26, HKp26, hs26, ht26⟩ := var_new HKd26.out HR26.out HK26.out 24
          have HRS26 := hid (HRS25.out.kp HKp26.out (by omega))
          have HKA26 := hid (HKA25.out.trans HKp26.out)
          have HMT1 := hid (Sy.mu_typ z N 200 (Sy.mustA z Sy.s_colon q.2))
          rw [HY26.out] at HMT1
          go_wp2_with fail
          try rw [hW26]
          clear hW26
          refine (must_m _ b s z y26.2 0 0 Sy.s_to HRd26.out).mono ?_
          rintro en w27 ⟨rfl, hr27, hk27⟩
          have HR27 := hid hr27
          have HK27 := hid hk27
          clear hr27 hk27
          have HV26x27 := hid (HV26.out.kp HK27.out (by omega) (by omega))
          have HRS27 := hid (HRS26.out.kp HK27.out (by omega))
          have HKA27 := hid (HKA26.out.trans HK27.out)
          have ht27 := HK27.out.size
          go_wp2_with fail
          have HM2 : Hid (Sy.mu (Sy.mustA z Sy.s_to y26.2) < m) := by have h1 := Sy.mu_must z Sy.s_to y26.2; have h2 := HMT1.out; have h3 := HM1.out; simp only [Hid]; omega
          have HM2N : Hid (Sy.mu (Sy.mustA z Sy.s_to y26.2) < N) := by have h1 := HM2.out; have h2 := HLN.out; simp only [Hid]; omega
          refine (HTY.out w27 b s z (Sy.mustA z Sy.s_to y26.2) 0 HR27.out HM2N.out).mono ?_
          rintro en w28 ⟨a28, l28, c28, rfl, HKd28, HR28, HK28⟩
          generalize hy28 : Sy.typA z N 200 (Sy.mustA z Sy.s_to y26.2) = y28 at *
          have HY28 := hid hy28
          clear hy28
          obtain ⟨W28, hW28, HV28, HRd28, HKp28, hs28, ht28⟩ := var_new HKd28.out HR28.out HK28.out 24
          have HV26x28 := hid (HV26x27.out.kp HKp28.out (by omega) (by omega))
          have HRS28 := hid (HRS27.out.kp HKp28.out (by omega))
          have HKA28 := hid (HKA27.out.trans HKp28.out)
          have HMT2 := hid (Sy.mu_typ z N 200 (Sy.mustA z Sy.s_to y26.2))
          rw [HY28.out] at HMT2
          obtain ⟨⟨q26_0, q26_1, q26_2, q26_3, q26_4⟩, q26_5, q26_6, q26_7, q26_8, q26_9⟩ := blk5 HV26x28.out.cells
          obtain ⟨⟨q28_0, q28_1, q28_2, q28_3, q28_4⟩, q28_5, q28_6, q28_7, q28_8, q28_9⟩ := blk5 HV28.out.cells
          go_wp2_with fail
          try rw [hW28]
          clear hW28
          have HNE : Hid (∀ q, wr.heap.size ≤ q → some q ≠ v.ownBlock) := fun q hq e => by have := (HLr.out.row.own.lt q e.symm).2; omega
          have HPG := hid (HLr.out.step HRd28.out HKA28.out (by omega) (by omega) (by omega))
          refine (named_m _ _ _ _ _ _ _).mono ?_
          rintro en w29 ⟨rfl, HB29⟩
          have HKN29 := hid (kids_new (F := (Fo W1.heap.size v)) [(y26.1, .slice a26 l26 c26), (y28.1, .slice a28 l28 c28)] (by simp) (by exact ⟨by omega, HNE.out _ (by omega)⟩) (by intro p hp; simp only [List.mem_cons, or_false, List.not_mem_nil] at hp; rcases hp with rfl | rfl <;> first | exact HV26x28.out.kids.weak (fun q hq _ => ⟨by have := hq.1; omega, HNE.out q (by have := hq.1; omega)⟩) | exact HV28.out.kids.weak (fun q hq _ => ⟨by have := hq.1; omega, HNE.out q (by have := hq.1; omega)⟩)) _ rfl 2 rfl HB29.out)
          have HV26x29 := hid (HV26x28.out.past (Below.trans ((Below.refl _ _).alloc (Nat.le_refl _) _) (HB29.out.mono (by simp))))
          have HV28x29 := hid (HV28.out.past (Below.trans ((Below.refl _ _).alloc (Nat.le_refl _) _) (HB29.out.mono (by simp))))
          have HRS29 := hid (HRS28.out.past (Below.trans ((Below.refl _ _).alloc (Nat.le_refl _) _) (HB29.out.mono (by simp))))
          have HKA29 := hid (HKA28.out.below (Below.trans ((Below.refl _ _).alloc (Nat.le_refl _) _) (HB29.out.mono (by simp))))
          have HR29 := hid ((HRd28.out.alloc _).below HB29.out ((HRd28.out.alloc _).lt))
          have HKZ := HKN29
          rw [hs28] at HKZ
          have HP1 := hid (HPG.out.past (Below.trans ((Below.refl _ _).alloc (Nat.le_refl _) _) (HB29.out.mono (by simp))))
          have HP2 := hid ((HP1.out.past ((Below.refl _ _).alloc (Nat.le_refl _) (.cells #[.int .i64 1, .int .i64 S1.t.pos, .string ⟨q.1.1.toArray⟩, .int .i64 0, .slice (some ⟨w28.heap.size + 1, 0, none⟩) 2 2] 24))).past ((Below.refl _ _).alloc (Nat.le_refl _) (.cells #[.int .i64 1, .int .i64 S1.t.pos, .string ⟨q.1.1.toArray⟩, .int .i64 0, .slice (some ⟨w28.heap.size + 1, 0, none⟩) 2 2] 24)))
          have HNW := hid (node_news (w := w29.alloc (.cells #[.int .i64 1, .int .i64 S1.t.pos, .string ⟨q.1.1.toArray⟩, .int .i64 0, .slice (some ⟨w28.heap.size + 1, 0, none⟩) 2 2] 24)) (T := (Sy.Tr.mk 1 S1.t.pos q.1.1 0 [y26.1, y28.1])) (a := some ⟨w28.heap.size + 1, 0, none⟩) (l := 2) (c := 2) (ty := 24) (H := w29.heap.size + 1) (by simp))
          have hb3 : W1.heap.size ≤ ((w29.alloc (.cells #[.int .i64 1, .int .i64 S1.t.pos, .string ⟨q.1.1.toArray⟩, .int .i64 0, .slice (some ⟨w28.heap.size + 1, 0, none⟩) 2 2] 24)).alloc (.cells #[.int .i64 1, .int .i64 S1.t.pos, .string ⟨q.1.1.toArray⟩, .int .i64 0, .slice (some ⟨w28.heap.size + 1, 0, none⟩) 2 2] 24)).heap.size := HP2.out.size
          obtain ⟨⟨e0, e1, e2, e3, e4⟩, e5, e6, e7, e8, e9⟩ := blk5 HP1.out.cells
          have hlA : w1.heap.size < w29.heap.size := HP1.out.cells.lt
          have hneA1 : ¬ w1.heap.size = w29.heap.size := by omega
          have hneA2 : ¬ w1.heap.size = w29.heap.size + 1 := by omega
          have KQQ : Hid (Kids ((w29.alloc (.cells #[.int .i64 1, .int .i64 S1.t.pos, .string ⟨q.1.1.toArray⟩, .int .i64 0, .slice (some ⟨w28.heap.size + 1, 0, none⟩) 2 2] 24)).alloc (.cells #[.int .i64 1, .int .i64 S1.t.pos, .string ⟨q.1.1.toArray⟩, .int .i64 0, .slice (some ⟨w28.heap.size + 1, 0, none⟩) 2 2] 24)) (Fo W1.heap.size v) (.slice (some ⟨w28.heap.size + 1, 0, none⟩) 2 2) (Sy.Tr.mk 1 S1.t.pos q.1.1 0 [y26.1, y28.1]).kids) := (HKZ.out.pastF ((Below.refl _ _).alloc (Nat.le_refl _) _)).pastF ((Below.refl _ _).alloc (Nat.le_refl _) _)
          have hcn : (ls.length : Int) ≤ 100000 := by have := HLN.out; omega
          go_wp2_with (at_builtin; go_must (refine wpList_append_lies _ rfl _ _ 22 rfl W1.heap.size 24 i0 (.agg #[.int .i64 0, .int .i64 0, .string ⟨#[]⟩, .int .i64 0, .slice none 0 0]) 5 64 Tryz.underlying22 hi hiz0 hiz1 hiz2 rfl (by decide) v ls.length (rowCells ls) rfl HP2.out.row.own ⟨w29.heap.size + 1, 0, none⟩ 1 1 (nodeCells (Sy.Tr.mk 1 S1.t.pos q.1.1 0 [y26.1, y28.1]) (.slice (some ⟨w28.heap.size + 1, 0, none⟩) 2 2)) rfl rfl HNW.out (node_one _ _ _ _) (by decide) HLB.out.1 HLB.out.2 hb3 _ rfl ?_); intro g cap w9 hown hgrow hat hlt3; have HG := hid (HP2.out.grown (T2 := (Sy.Tr.mk 1 S1.t.pos q.1.1 0 [y26.1, y28.1])) (kv := .slice (some ⟨w28.heap.size + 1, 0, none⟩) 2 2) (by omega) (by omega) (by omega) (by omega) hown hgrow hat KQQ.out); obtain ⟨⟨z0, z1, z2, z3, z4⟩, z5, z6, z7, z8, z9⟩ := blk5 HG.out.2.1)
          have HPP := hid ((pg_put HG.out (by omega) (by omega) (by omega) (by omega)).count (ls.length + 1) ((ls.length : Int) + 1) (by omega) (by omega) (by omega) (by omega) (by omega))
          clear z0 z1 z2 z3 z4 z5 z6 z7 z8 z9 hown hgrow hat
          have HEQ2 : Hid (Sy.opsA z N m ((ls ++ [((Sy.Tr.mk 1 S1.t.pos q.1.1 0 [y26.1, y28.1]), (.slice (some ⟨w28.heap.size + 1, 0, none⟩) 2 2 : Value))]).map (·.1)) y28.2 = Sy.opsA z N N [] S) := by
            have h := HEQ.out
            rw [Sy.opsA] at h
            simp only [hop, if_true, HU.out, ho, hy, Bool.or_true, Bool.false_eq_true, if_false, HVV.out, HQ.out, HY26.out, HY28.out] at h
            simp only [Hid, List.map_append, List.map_cons, List.map_nil]
            exact h
          go_roundg m
          case measure => omega
          case rel => exact ⟨ls ++ [((Sy.Tr.mk 1 S1.t.pos q.1.1 0 [y26.1, y28.1]), .slice (some ⟨w28.heap.size + 1, 0, none⟩) 2 2)], _, _, by rw [List.length_append]; exact HPP, HEQ2, Nat.lt_of_le_of_lt HMT2.out HM2N.out, Nat.lt_of_le_of_lt HMT2.out HM2.out, by have := HLN.out; simp only [Hid, List.length_append, List.length_cons, List.length_nil]; omega⟩
        | false =>
          obtain ⟨r0, r1, r2, r3, r4, HRSA0⟩ := HLr.out.res
          have HRSA := hid HRSA0
          clear HRSA0
          have HMA := hid (Sy.mu_is z hop)
          obtain ⟨p21, hb21, _⟩ := HLr.out.rd.cells
          have c21_2 := (hb21 2 _ rfl).1
          clear hb21
          go_wp2_with fail
          refine (is_q _ b s z S1 0 0 Sy.w_op HLr.out.rd).mono ?_
          rintro en w' ⟨rfl, rfl⟩
          go_wp2_with fail
          refine (next_m _ b s z S1 0 0 HLr.out.rd).mono ?_
          rintro en w22 ⟨rfl, hr22, hk22⟩
          have HR22 := hid hr22
          have HK22 := hid hk22
          clear hr22 hk22
          have HRS22 := hid (HRSA.out.kp HK22.out (by omega))
          have HKA22 := hid ((Kp.refl b wr).trans HK22.out)
          have ht22 := HK22.out.size
          generalize hu : Sy.nextA z S1 = u at *
          have HU := hid hu
          clear hu
          go_wp2_with fail
          refine (is_q _ b s z u 0 0 Sy.w_once HR22.out).mono ?_
          rintro en w' ⟨rfl, rfl⟩
          go_wp2_with fail
          refine (is_q _ b s z u 0 0 Sy.w_many HR22.out).mono ?_
          rintro en w' ⟨rfl, rfl⟩
          go_wp2_with fail
          refine (no_m _ b s z u 0 0 HR22.out).mono ?_
          rintro en w23 ⟨rfl, hr23, hk23⟩
          have HR23 := hid hr23
          have HK23 := hid hk23
          clear hr23 hk23
          have HRS23 := hid (HRS22.out.kp HK23.out (by omega))
          have HKA23 := hid (HKA22.out.trans HK23.out)
          have ht23 := HK23.out.size
          have HMV := hid (Sy.mu_no u)
          generalize hv : (Sy.noA u) = vv at *
          have HVV := hid hv
          clear hv
          go_wp2_with fail
          refine (name_m _ b s z vv 0 0 HR23.out).mono ?_
          rintro en w24 ⟨rfl, hr24, hk24⟩
          have HR24 := hid hr24
          have HK24 := hid hk24
          clear hr24 hk24
          have HRS24 := hid (HRS23.out.kp HK24.out (by omega))
          have HKA24 := hid (HKA23.out.trans HK24.out)
          have ht24 := HK24.out.size
          have HMq := hid (Sy.mu_name z vv)
          generalize hq : Sy.nameA z vv = q at *
          have HQ := hid hq
          clear hq
          go_wp2_with fail
          refine (must_m _ b s z q.2 0 0 Sy.s_colon HR24.out).mono ?_
          rintro en w25 ⟨rfl, hr25, hk25⟩
          have HR25 := hid hr25
          have HK25 := hid hk25
          clear hr25 hk25
          have HRS25 := hid (HRS24.out.kp HK25.out (by omega))
          have HKA25 := hid (HKA24.out.trans HK25.out)
          have ht25 := HK25.out.size
          go_wp2_with fail
          have HM1 : Hid (Sy.mu (Sy.mustA z Sy.s_colon q.2) < m) := by have h1 := Sy.mu_must z Sy.s_colon q.2; have h2 := HMq.out; have h3 := HMV.out; have h4 := HMA.out; have h5 := HMN.out; simp only [Hid]; omega
          have HM1N : Hid (Sy.mu (Sy.mustA z Sy.s_colon q.2) < N) := by have h1 := HM1.out; have h2 := HLN.out; simp only [Hid]; omega
          refine (HTY.out w25 b s z (Sy.mustA z Sy.s_colon q.2) 0 HR25.out HM1N.out).mono ?_
          rintro en w26 ⟨a26, l26, c26, rfl, HKd26, HR26, HK26⟩
          generalize hy26 : Sy.typA z N 200 (Sy.mustA z Sy.s_colon q.2) = y26 at *
          have HY26 := hid hy26
          clear hy26
          obtain ⟨W26, hW26, HV26, HRd26, HKp26, hs26, ht26⟩ := var_new HKd26.out HR26.out HK26.out 24
          have HRS26 := hid (HRS25.out.kp HKp26.out (by omega))
          have HKA26 := hid (HKA25.out.trans HKp26.out)
          have HMT1 := hid (Sy.mu_typ z N 200 (Sy.mustA z Sy.s_colon q.2))
          rw [HY26.out] at HMT1
          go_wp2_with fail
          try rw [hW26]
          clear hW26
          refine (must_m _ b s z y26.2 0 0 Sy.s_to HRd26.out).mono ?_
          rintro en w27 ⟨rfl, hr27, hk27⟩
          have HR27 := hid hr27
          have HK27 := hid hk27
          clear hr27 hk27
          have HV26x27 := hid (HV26.out.kp HK27.out (by omega) (by omega))
          have HRS27 := hid (HRS26.out.kp HK27.out (by omega))
          have HKA27 := hid (HKA26.out.trans HK27.out)
          have ht27 := HK27.out.size
          go_wp2_with fail
          have HM2 : Hid (Sy.mu (Sy.mustA z Sy.s_to y26.2) < m) := by have h1 := Sy.mu_must z Sy.s_to y26.2; have h2 := HMT1.out; have h3 := HM1.out; simp only [Hid]; omega
          have HM2N : Hid (Sy.mu (Sy.mustA z Sy.s_to y26.2) < N) := by have h1 := HM2.out; have h2 := HLN.out; simp only [Hid]; omega
          refine (HTY.out w27 b s z (Sy.mustA z Sy.s_to y26.2) 0 HR27.out HM2N.out).mono ?_
          rintro en w28 ⟨a28, l28, c28, rfl, HKd28, HR28, HK28⟩
          generalize hy28 : Sy.typA z N 200 (Sy.mustA z Sy.s_to y26.2) = y28 at *
          have HY28 := hid hy28
          clear hy28
          obtain ⟨W28, hW28, HV28, HRd28, HKp28, hs28, ht28⟩ := var_new HKd28.out HR28.out HK28.out 24
          have HV26x28 := hid (HV26x27.out.kp HKp28.out (by omega) (by omega))
          have HRS28 := hid (HRS27.out.kp HKp28.out (by omega))
          have HKA28 := hid (HKA27.out.trans HKp28.out)
          have HMT2 := hid (Sy.mu_typ z N 200 (Sy.mustA z Sy.s_to y26.2))
          rw [HY28.out] at HMT2
          obtain ⟨⟨q26_0, q26_1, q26_2, q26_3, q26_4⟩, q26_5, q26_6, q26_7, q26_8, q26_9⟩ := blk5 HV26x28.out.cells
          obtain ⟨⟨q28_0, q28_1, q28_2, q28_3, q28_4⟩, q28_5, q28_6, q28_7, q28_8, q28_9⟩ := blk5 HV28.out.cells
          go_wp2_with fail
          try rw [hW28]
          clear hW28
          have HNE : Hid (∀ q, wr.heap.size ≤ q → some q ≠ v.ownBlock) := fun q hq e => by have := (HLr.out.row.own.lt q e.symm).2; omega
          have HPG := hid (HLr.out.step HRd28.out HKA28.out (by omega) (by omega) (by omega))
          refine (named_m _ _ _ _ _ _ _).mono ?_
          rintro en w29 ⟨rfl, HB29⟩
          have HKN29 := hid (kids_new (F := (Fo W1.heap.size v)) [(y26.1, .slice a26 l26 c26), (y28.1, .slice a28 l28 c28)] (by simp) (by exact ⟨by omega, HNE.out _ (by omega)⟩) (by intro p hp; simp only [List.mem_cons, or_false, List.not_mem_nil] at hp; rcases hp with rfl | rfl <;> first | exact HV26x28.out.kids.weak (fun q hq _ => ⟨by have := hq.1; omega, HNE.out q (by have := hq.1; omega)⟩) | exact HV28.out.kids.weak (fun q hq _ => ⟨by have := hq.1; omega, HNE.out q (by have := hq.1; omega)⟩)) _ rfl 2 rfl HB29.out)
          have HV26x29 := hid (HV26x28.out.past (Below.trans ((Below.refl _ _).alloc (Nat.le_refl _) _) (HB29.out.mono (by simp))))
          have HV28x29 := hid (HV28.out.past (Below.trans ((Below.refl _ _).alloc (Nat.le_refl _) _) (HB29.out.mono (by simp))))
          have HRS29 := hid (HRS28.out.past (Below.trans ((Below.refl _ _).alloc (Nat.le_refl _) _) (HB29.out.mono (by simp))))
          have HKA29 := hid (HKA28.out.below (Below.trans ((Below.refl _ _).alloc (Nat.le_refl _) _) (HB29.out.mono (by simp))))
          have HR29 := hid ((HRd28.out.alloc _).below HB29.out ((HRd28.out.alloc _).lt))
          have HKZ := HKN29
          rw [hs28] at HKZ
          have HP1 := hid (HPG.out.past (Below.trans ((Below.refl _ _).alloc (Nat.le_refl _) _) (HB29.out.mono (by simp))))
          have HP2 := hid ((HP1.out.past ((Below.refl _ _).alloc (Nat.le_refl _) (.cells #[.int .i64 1, .int .i64 S1.t.pos, .string ⟨q.1.1.toArray⟩, .int .i64 0, .slice (some ⟨w28.heap.size + 1, 0, none⟩) 2 2] 24))).past ((Below.refl _ _).alloc (Nat.le_refl _) (.cells #[.int .i64 1, .int .i64 S1.t.pos, .string ⟨q.1.1.toArray⟩, .int .i64 0, .slice (some ⟨w28.heap.size + 1, 0, none⟩) 2 2] 24)))
          have HNW := hid (node_news (w := w29.alloc (.cells #[.int .i64 1, .int .i64 S1.t.pos, .string ⟨q.1.1.toArray⟩, .int .i64 0, .slice (some ⟨w28.heap.size + 1, 0, none⟩) 2 2] 24)) (T := (Sy.Tr.mk 1 S1.t.pos q.1.1 0 [y26.1, y28.1])) (a := some ⟨w28.heap.size + 1, 0, none⟩) (l := 2) (c := 2) (ty := 24) (H := w29.heap.size + 1) (by simp))
          have hb3 : W1.heap.size ≤ ((w29.alloc (.cells #[.int .i64 1, .int .i64 S1.t.pos, .string ⟨q.1.1.toArray⟩, .int .i64 0, .slice (some ⟨w28.heap.size + 1, 0, none⟩) 2 2] 24)).alloc (.cells #[.int .i64 1, .int .i64 S1.t.pos, .string ⟨q.1.1.toArray⟩, .int .i64 0, .slice (some ⟨w28.heap.size + 1, 0, none⟩) 2 2] 24)).heap.size := HP2.out.size
          obtain ⟨⟨e0, e1, e2, e3, e4⟩, e5, e6, e7, e8, e9⟩ := blk5 HP1.out.cells
          have hlA : w1.heap.size < w29.heap.size := HP1.out.cells.lt
          have hneA1 : ¬ w1.heap.size = w29.heap.size := by omega
          have hneA2 : ¬ w1.heap.size = w29.heap.size + 1 := by omega
          have KQQ : Hid (Kids ((w29.alloc (.cells #[.int .i64 1, .int .i64 S1.t.pos, .string ⟨q.1.1.toArray⟩, .int .i64 0, .slice (some ⟨w28.heap.size + 1, 0, none⟩) 2 2] 24)).alloc (.cells #[.int .i64 1, .int .i64 S1.t.pos, .string ⟨q.1.1.toArray⟩, .int .i64 0, .slice (some ⟨w28.heap.size + 1, 0, none⟩) 2 2] 24)) (Fo W1.heap.size v) (.slice (some ⟨w28.heap.size + 1, 0, none⟩) 2 2) (Sy.Tr.mk 1 S1.t.pos q.1.1 0 [y26.1, y28.1]).kids) := (HKZ.out.pastF ((Below.refl _ _).alloc (Nat.le_refl _) _)).pastF ((Below.refl _ _).alloc (Nat.le_refl _) _)
          have hcn : (ls.length : Int) ≤ 100000 := by have := HLN.out; omega
          go_wp2_with (at_builtin; go_must (refine wpList_append_lies _ rfl _ _ 22 rfl W1.heap.size 24 i0 (.agg #[.int .i64 0, .int .i64 0, .string ⟨#[]⟩, .int .i64 0, .slice none 0 0]) 5 64 Tryz.underlying22 hi hiz0 hiz1 hiz2 rfl (by decide) v ls.length (rowCells ls) rfl HP2.out.row.own ⟨w29.heap.size + 1, 0, none⟩ 1 1 (nodeCells (Sy.Tr.mk 1 S1.t.pos q.1.1 0 [y26.1, y28.1]) (.slice (some ⟨w28.heap.size + 1, 0, none⟩) 2 2)) rfl rfl HNW.out (node_one _ _ _ _) (by decide) HLB.out.1 HLB.out.2 hb3 _ rfl ?_); intro g cap w9 hown hgrow hat hlt3; have HG := hid (HP2.out.grown (T2 := (Sy.Tr.mk 1 S1.t.pos q.1.1 0 [y26.1, y28.1])) (kv := .slice (some ⟨w28.heap.size + 1, 0, none⟩) 2 2) (by omega) (by omega) (by omega) (by omega) hown hgrow hat KQQ.out); obtain ⟨⟨z0, z1, z2, z3, z4⟩, z5, z6, z7, z8, z9⟩ := blk5 HG.out.2.1)
          have HPP := hid ((pg_put HG.out (by omega) (by omega) (by omega) (by omega)).count (ls.length + 1) ((ls.length : Int) + 1) (by omega) (by omega) (by omega) (by omega) (by omega))
          clear z0 z1 z2 z3 z4 z5 z6 z7 z8 z9 hown hgrow hat
          have HEQ2 : Hid (Sy.opsA z N m ((ls ++ [((Sy.Tr.mk 1 S1.t.pos q.1.1 0 [y26.1, y28.1]), (.slice (some ⟨w28.heap.size + 1, 0, none⟩) 2 2 : Value))]).map (·.1)) y28.2 = Sy.opsA z N N [] S) := by
            have h := HEQ.out
            rw [Sy.opsA] at h
            simp only [hop, if_true, HU.out, ho, hy, Bool.or_false, Bool.false_eq_true, if_false, HVV.out, HQ.out, HY26.out, HY28.out] at h
            simp only [Hid, List.map_append, List.map_cons, List.map_nil]
            exact h
          go_roundg m
          case measure => omega
          case rel => exact ⟨ls ++ [((Sy.Tr.mk 1 S1.t.pos q.1.1 0 [y26.1, y28.1]), .slice (some ⟨w28.heap.size + 1, 0, none⟩) 2 2)], _, _, by rw [List.length_append]; exact HPP, HEQ2, Nat.lt_of_le_of_lt HMT2.out HM2N.out, Nat.lt_of_le_of_lt HMT2.out HM2.out, by have := HLN.out; simp only [Hid, List.length_append, List.length_cons, List.length_nil]; omega⟩
    | false =>
      have HO : Hid (Sy.opsA z N N [] S = (ls.map (·.1), S1)) := by rw [Hid, ← HEQ.out, Sy.opsA]; simp [hop]
      go_wp2_with fail
      refine (is_q _ b s z S1 0 0 Sy.w_op HLr.out.rd).mono ?_
      rintro en w' ⟨rfl, rfl⟩
      go_wp2_with fail
      obtain ⟨dd, hdd⟩ : ∃ dd, Sy.defsA z N N (ls.map (·.1)) S1 = dd := ⟨_, rfl⟩
      have HDD := hid hdd
      clear hdd
      obtain ⟨cnt, hcnt⟩ : ∃ cnt, cnt = ls.length := ⟨_, rfl⟩
      have HLc := HLr
      rw [← hcnt] at HLc
      have hcl : cnt ≤ N := by have := HLN.out; omega
      have HPR : Hid (Sy.progA z N S = (.mk 0 0 [] cnt (dd.1 ++ [(Sy.exprA z N 200 (Sy.mustA z Sy.s_eq (Sy.mustA z Sy.w_main dd.2))).1]), (Sy.exprA z N 200 (Sy.mustA z Sy.s_eq (Sy.mustA z Sy.w_main dd.2))).2)) := by
        simp only [Hid, Sy.progA, HO.out, HDD.out, List.length_map, hcnt]
      go_loopg [] N (fun n wr => ∃ (ls : List (Sy.Tr × Value)) (v : Value) (S1 : Sy.RS), Hid (Pg w b w1.heap.size w.heap.size W1.heap.size s z S1 cnt v ls wr) ∧ Hid (Sy.defsA z N n (ls.map (·.1)) S1 = dd) ∧ Hid (Sy.mu S1 < N) ∧ Hid (Sy.mu S1 < n) ∧ Hid (ls.length + n = cnt + N))
      case atStart => exact ⟨ls, v, S1, HLc, HDD, HMS, HMS, hid (by omega)⟩
      case round =>
        clear HLc HLr HEQ HMS HMN HLN HO HLB hzr hcnt hop HDD HL
        obtain ⟨ls, v, S1, HLr, HEQ, HMS, HMN, HLN⟩ := hrel
        obtain ⟨m, hm⟩ : ∃ m, gk = m + 1 := ⟨gk - 1, by have := HMN.out; omega⟩
        subst hm
        have hzr := HLr.out.size
        have HLB := hid (len_bytes (n := ls.length) (N := 2 * N + 1) (by have := HLN.out; omega) (by omega))
        cases hde : Sy.isA Sy.w_def S1 with
        | true =>
          cases hrc : Sy.isA Sy.w_rec (Sy.nextA z S1) with
          | true =>
            obtain ⟨r0, r1, r2, r3, r4, HRSA0⟩ := HLr.out.res
            have HRSA := hid HRSA0
            clear HRSA0
            have HMA := hid (Sy.mu_is z hde)
            obtain ⟨p21, hb21, _⟩ := HLr.out.rd.cells
            have c21_2 := (hb21 2 _ rfl).1
            clear hb21
            go_wp2_with fail
            refine (is_q _ b s z S1 0 0 Sy.w_def HLr.out.rd).mono ?_
            rintro en w' ⟨rfl, rfl⟩
            go_wp2_with fail
            refine (next_m _ b s z S1 0 0 HLr.out.rd).mono ?_
            rintro en w22 ⟨rfl, hr22, hk22⟩
            have HR22 := hid hr22
            have HK22 := hid hk22
            clear hr22 hk22
            have HRS22 := hid (HRSA.out.kp HK22.out (by omega))
            have HKA22 := hid ((Kp.refl b wr).trans HK22.out)
            have ht22 := HK22.out.size
            have HMV := hid (Sy.mu_has z Sy.w_rec (Sy.nextA z S1))
            have HHS : Hid (Sy.hasA z Sy.w_rec (Sy.nextA z S1) = Sy.nextA z (Sy.nextA z S1)) := by simp [Hid, Sy.hasA, hrc]
            rw [HHS.out] at HMV
            go_wp2_with fail
            refine (has_yes _ b s z (Sy.nextA z S1) 0 0 Sy.w_rec HR22.out hrc).mono ?_
            rintro en w23 ⟨rfl, hr23, hk23⟩
            have HR23 := hid hr23
            have HK23 := hid hk23
            clear hr23 hk23
            have HRS23 := hid (HRS22.out.kp HK23.out (by omega))
            have HKA23 := hid (HKA22.out.trans HK23.out)
            have ht23 := HK23.out.size
            go_wp2_with fail
            refine (name_m _ b s z (Sy.nextA z (Sy.nextA z S1)) 0 0 HR23.out).mono ?_
            rintro en w24 ⟨rfl, hr24, hk24⟩
            have HR24 := hid hr24
            have HK24 := hid hk24
            clear hr24 hk24
            have HRS24 := hid (HRS23.out.kp HK24.out (by omega))
            have HKA24 := hid (HKA23.out.trans HK24.out)
            have ht24 := HK24.out.size
            have HMq := hid (Sy.mu_name z (Sy.nextA z (Sy.nextA z S1)))
            generalize hq : Sy.nameA z (Sy.nextA z (Sy.nextA z S1)) = q at *
            have HQ := hid hq
            clear hq
            go_wp2_with fail
            have HM1 : Hid (Sy.mu q.2 < m) := by have h2 := HMq.out; have h3 := HMV.out; have h4 := HMA.out; have h5 := HMN.out; simp only [Hid]; omega
            have HM1N : Hid (Sy.mu q.2 < N) := by have h2 := HMq.out; have h3 := HMV.out; have h4 := HMA.out; have h5 := HMS.out; simp only [Hid]; omega
            refine (params_m N 200 HE.out Sy.s_eq N w24 b s z true q.2 0 HR24.out HM1N.out HM1N.out).mono ?_
            rintro en w25 ⟨a25, l25, c25, rfl, HKd25, HR25, HK25⟩
            generalize hy25 : Sy.paramsA z (Sy.exprA z N 200) Sy.s_eq N true q.2 = y25 at *
            have HY25 := hid hy25
            clear hy25
            obtain ⟨W25, hW25, HV25, HRd25, HKp25, hs25, ht25⟩ := var_new HKd25.out HR25.out HK25.out 24
            have HRS25 := hid (HRS24.out.kp HKp25.out (by omega))
            have HKA25 := hid (HKA24.out.trans HKp25.out)
            have HMT2 := hid (Sy.mu_params z (Sy.mu_expr z N 200) Sy.s_eq N true q.2)
            rw [HY25.out] at HMT2
            obtain ⟨⟨q25_0, q25_1, q25_2, q25_3, q25_4⟩, q25_5, q25_6, q25_7, q25_8, q25_9⟩ := blk5 HV25.out.cells
            go_wp2_with fail
            try rw [hW25]
            clear hW25
            have HNE : Hid (∀ q, wr.heap.size ≤ q → some q ≠ v.ownBlock) := fun q hq e => by have := (HLr.out.row.own.lt q e.symm).2; omega
            have HPG := hid (HLr.out.step HRd25.out HKA25.out (by omega) (by omega) (by omega))
            refine (named_m _ _ _ _ _ _ _).mono ?_
            rintro en w26 ⟨rfl, HB26⟩
            have HKN26 := hid (kids_new (F := (Fo W1.heap.size v)) [(y25.1, .slice a25 l25 c25)] (by simp) (by exact ⟨by omega, HNE.out _ (by omega)⟩) (by intro p hp; simp only [List.mem_cons, or_false, List.not_mem_nil] at hp; rcases hp with rfl <;> first | exact HV25.out.kids.weak (fun q hq _ => ⟨by have := hq.1; omega, HNE.out q (by have := hq.1; omega)⟩)) _ rfl 1 rfl HB26.out)
            have HV25x26 := hid (HV25.out.past (Below.trans ((Below.refl _ _).alloc (Nat.le_refl _) _) (HB26.out.mono (by simp))))
            have HRS26 := hid (HRS25.out.past (Below.trans ((Below.refl _ _).alloc (Nat.le_refl _) _) (HB26.out.mono (by simp))))
            have HKA26 := hid (HKA25.out.below (Below.trans ((Below.refl _ _).alloc (Nat.le_refl _) _) (HB26.out.mono (by simp))))
            have HR26 := hid ((HRd25.out.alloc _).below HB26.out ((HRd25.out.alloc _).lt))
            have HKZ := HKN26
            rw [hs25] at HKZ
            have HP1 := hid (HPG.out.past (Below.trans ((Below.refl _ _).alloc (Nat.le_refl _) _) (HB26.out.mono (by simp))))
            have HP2 := hid ((HP1.out.past ((Below.refl _ _).alloc (Nat.le_refl _) (.cells #[.int .i64 2, .int .i64 S1.t.pos, .string ⟨q.1.1.toArray⟩, .int .i64 1, .slice (some ⟨w25.heap.size + 1, 0, none⟩) 1 1] 24))).past ((Below.refl _ _).alloc (Nat.le_refl _) (.cells #[.int .i64 2, .int .i64 S1.t.pos, .string ⟨q.1.1.toArray⟩, .int .i64 1, .slice (some ⟨w25.heap.size + 1, 0, none⟩) 1 1] 24)))
            have HNW := hid (node_news (w := w26.alloc (.cells #[.int .i64 2, .int .i64 S1.t.pos, .string ⟨q.1.1.toArray⟩, .int .i64 1, .slice (some ⟨w25.heap.size + 1, 0, none⟩) 1 1] 24)) (T := (Sy.Tr.mk 2 S1.t.pos q.1.1 1 [y25.1])) (a := some ⟨w25.heap.size + 1, 0, none⟩) (l := 1) (c := 1) (ty := 24) (H := w26.heap.size + 1) (by simp))
            have hb3 : W1.heap.size ≤ ((w26.alloc (.cells #[.int .i64 2, .int .i64 S1.t.pos, .string ⟨q.1.1.toArray⟩, .int .i64 1, .slice (some ⟨w25.heap.size + 1, 0, none⟩) 1 1] 24)).alloc (.cells #[.int .i64 2, .int .i64 S1.t.pos, .string ⟨q.1.1.toArray⟩, .int .i64 1, .slice (some ⟨w25.heap.size + 1, 0, none⟩) 1 1] 24)).heap.size := HP2.out.size
            obtain ⟨⟨e0, e1, e2, e3, e4⟩, e5, e6, e7, e8, e9⟩ := blk5 HP1.out.cells
            have hlA : w1.heap.size < w26.heap.size := HP1.out.cells.lt
            have hneA1 : ¬ w1.heap.size = w26.heap.size := by omega
            have hneA2 : ¬ w1.heap.size = w26.heap.size + 1 := by omega
            have KQQ : Hid (Kids ((w26.alloc (.cells #[.int .i64 2, .int .i64 S1.t.pos, .string ⟨q.1.1.toArray⟩, .int .i64 1, .slice (some ⟨w25.heap.size + 1, 0, none⟩) 1 1] 24)).alloc (.cells #[.int .i64 2, .int .i64 S1.t.pos, .string ⟨q.1.1.toArray⟩, .int .i64 1, .slice (some ⟨w25.heap.size + 1, 0, none⟩) 1 1] 24)) (Fo W1.heap.size v) (.slice (some ⟨w25.heap.size + 1, 0, none⟩) 1 1) (Sy.Tr.mk 2 S1.t.pos q.1.1 1 [y25.1]).kids) := (HKZ.out.pastF ((Below.refl _ _).alloc (Nat.le_refl _) _)).pastF ((Below.refl _ _).alloc (Nat.le_refl _) _)
            have hcn : (ls.length : Int) ≤ 100000 := by have := HLN.out; omega
            go_wp2_with (at_builtin; go_must (refine wpList_append_lies _ rfl _ _ 22 rfl W1.heap.size 24 i0 (.agg #[.int .i64 0, .int .i64 0, .string ⟨#[]⟩, .int .i64 0, .slice none 0 0]) 5 64 Tryz.underlying22 hi hiz0 hiz1 hiz2 rfl (by decide) v ls.length (rowCells ls) rfl HP2.out.row.own ⟨w26.heap.size + 1, 0, none⟩ 1 1 (nodeCells (Sy.Tr.mk 2 S1.t.pos q.1.1 1 [y25.1]) (.slice (some ⟨w25.heap.size + 1, 0, none⟩) 1 1)) rfl rfl HNW.out (node_one _ _ _ _) (by decide) HLB.out.1 HLB.out.2 hb3 _ rfl ?_); intro g cap w9 hown hgrow hat hlt3; have HG := hid (HP2.out.grown (T2 := (Sy.Tr.mk 2 S1.t.pos q.1.1 1 [y25.1])) (kv := .slice (some ⟨w25.heap.size + 1, 0, none⟩) 1 1) (by omega) (by omega) (by omega) (by omega) hown hgrow hat KQQ.out); obtain ⟨⟨z0, z1, z2, z3, z4⟩, z5, z6, z7, z8, z9⟩ := blk5 HG.out.2.1)
            have HPP := hid (pg_put HG.out (by omega) (by omega) (by omega) (by omega))
            clear z0 z1 z2 z3 z4 z5 z6 z7 z8 z9 hown hgrow hat
            have HEQ2 : Hid (Sy.defsA z N m ((ls ++ [((Sy.Tr.mk 2 S1.t.pos q.1.1 1 [y25.1]), (.slice (some ⟨w25.heap.size + 1, 0, none⟩) 1 1 : Value))]).map (·.1)) y25.2 = dd) := by
              have h := HEQ.out
              rw [Sy.defsA] at h
              simp only [hde, if_true, hrc, HHS.out, HQ.out, HY25.out] at h
              simp only [Hid, List.map_append, List.map_cons, List.map_nil]
              exact h
            go_roundg m
            case measure => omega
            case rel => exact ⟨ls ++ [((Sy.Tr.mk 2 S1.t.pos q.1.1 1 [y25.1]), .slice (some ⟨w25.heap.size + 1, 0, none⟩) 1 1)], _, _, HPP, HEQ2, Nat.lt_of_le_of_lt HMT2.out HM1N.out, Nat.lt_of_le_of_lt HMT2.out HM1.out, by have := HLN.out; simp only [Hid, List.length_append, List.length_cons, List.length_nil]; omega⟩
          | false =>
            obtain ⟨r0, r1, r2, r3, r4, HRSA0⟩ := HLr.out.res
            have HRSA := hid HRSA0
            clear HRSA0
            have HMA := hid (Sy.mu_is z hde)
            obtain ⟨p21, hb21, _⟩ := HLr.out.rd.cells
            have c21_2 := (hb21 2 _ rfl).1
            clear hb21
            go_wp2_with fail
            refine (is_q _ b s z S1 0 0 Sy.w_def HLr.out.rd).mono ?_
            rintro en w' ⟨rfl, rfl⟩
            go_wp2_with fail
            refine (next_m _ b s z S1 0 0 HLr.out.rd).mono ?_
            rintro en w22 ⟨rfl, hr22, hk22⟩
            have HR22 := hid hr22
            have HK22 := hid hk22
            clear hr22 hk22
            have HRS22 := hid (HRSA.out.kp HK22.out (by omega))
            have HKA22 := hid ((Kp.refl b wr).trans HK22.out)
            have ht22 := HK22.out.size
            have HMV := hid (Sy.mu_has z Sy.w_rec (Sy.nextA z S1))
            have HHS : Hid (Sy.hasA z Sy.w_rec (Sy.nextA z S1) = Sy.nextA z S1) := by simp [Hid, Sy.hasA, hrc]
            rw [HHS.out] at HMV
            go_wp2_with fail
            refine (has_no _ b s z (Sy.nextA z S1) 0 0 Sy.w_rec HR22.out hrc).mono ?_
            rintro en w' ⟨rfl, rfl⟩
            go_wp2_with fail
            refine (name_m _ b s z (Sy.nextA z S1) 0 0 HR22.out).mono ?_
            rintro en w23 ⟨rfl, hr23, hk23⟩
            have HR23 := hid hr23
            have HK23 := hid hk23
            clear hr23 hk23
            have HRS23 := hid (HRS22.out.kp HK23.out (by omega))
            have HKA23 := hid (HKA22.out.trans HK23.out)
            have ht23 := HK23.out.size
            have HMq := hid (Sy.mu_name z (Sy.nextA z S1))
            generalize hq : Sy.nameA z (Sy.nextA z S1) = q at *
            have HQ := hid hq
            clear hq
            go_wp2_with fail
            have HM1 : Hid (Sy.mu q.2 < m) := by have h2 := HMq.out; have h3 := HMV.out; have h4 := HMA.out; have h5 := HMN.out; simp only [Hid]; omega
            have HM1N : Hid (Sy.mu q.2 < N) := by have h2 := HMq.out; have h3 := HMV.out; have h4 := HMA.out; have h5 := HMS.out; simp only [Hid]; omega
            refine (params_m N 200 HE.out Sy.s_eq N w23 b s z true q.2 0 HR23.out HM1N.out HM1N.out).mono ?_
            rintro en w24 ⟨a24, l24, c24, rfl, HKd24, HR24, HK24⟩
            generalize hy24 : Sy.paramsA z (Sy.exprA z N 200) Sy.s_eq N true q.2 = y24 at *
            have HY24 := hid hy24
            clear hy24
            obtain ⟨W24, hW24, HV24, HRd24, HKp24, hs24, ht24⟩ := var_new HKd24.out HR24.out HK24.out 24
            have HRS24 := hid (HRS23.out.kp HKp24.out (by omega))
            have HKA24 := hid (HKA23.out.trans HKp24.out)
            have HMT2 := hid (Sy.mu_params z (Sy.mu_expr z N 200) Sy.s_eq N true q.2)
            rw [HY24.out] at HMT2
            obtain ⟨⟨q24_0, q24_1, q24_2, q24_3, q24_4⟩, q24_5, q24_6, q24_7, q24_8, q24_9⟩ := blk5 HV24.out.cells
            go_wp2_with fail
            try rw [hW24]
            clear hW24
            have HNE : Hid (∀ q, wr.heap.size ≤ q → some q ≠ v.ownBlock) := fun q hq e => by have := (HLr.out.row.own.lt q e.symm).2; omega
            have HPG := hid (HLr.out.step HRd24.out HKA24.out (by omega) (by omega) (by omega))
            refine (named_m _ _ _ _ _ _ _).mono ?_
            rintro en w25 ⟨rfl, HB25⟩
            have HKN25 := hid (kids_new (F := (Fo W1.heap.size v)) [(y24.1, .slice a24 l24 c24)] (by simp) (by exact ⟨by omega, HNE.out _ (by omega)⟩) (by intro p hp; simp only [List.mem_cons, or_false, List.not_mem_nil] at hp; rcases hp with rfl <;> first | exact HV24.out.kids.weak (fun q hq _ => ⟨by have := hq.1; omega, HNE.out q (by have := hq.1; omega)⟩)) _ rfl 1 rfl HB25.out)
            have HV24x25 := hid (HV24.out.past (Below.trans ((Below.refl _ _).alloc (Nat.le_refl _) _) (HB25.out.mono (by simp))))
            have HRS25 := hid (HRS24.out.past (Below.trans ((Below.refl _ _).alloc (Nat.le_refl _) _) (HB25.out.mono (by simp))))
            have HKA25 := hid (HKA24.out.below (Below.trans ((Below.refl _ _).alloc (Nat.le_refl _) _) (HB25.out.mono (by simp))))
            have HR25 := hid ((HRd24.out.alloc _).below HB25.out ((HRd24.out.alloc _).lt))
            have HKZ := HKN25
            rw [hs24] at HKZ
            have HP1 := hid (HPG.out.past (Below.trans ((Below.refl _ _).alloc (Nat.le_refl _) _) (HB25.out.mono (by simp))))
            have HP2 := hid ((HP1.out.past ((Below.refl _ _).alloc (Nat.le_refl _) (.cells #[.int .i64 2, .int .i64 S1.t.pos, .string ⟨q.1.1.toArray⟩, .int .i64 0, .slice (some ⟨w24.heap.size + 1, 0, none⟩) 1 1] 24))).past ((Below.refl _ _).alloc (Nat.le_refl _) (.cells #[.int .i64 2, .int .i64 S1.t.pos, .string ⟨q.1.1.toArray⟩, .int .i64 0, .slice (some ⟨w24.heap.size + 1, 0, none⟩) 1 1] 24)))
            have HNW := hid (node_news (w := w25.alloc (.cells #[.int .i64 2, .int .i64 S1.t.pos, .string ⟨q.1.1.toArray⟩, .int .i64 0, .slice (some ⟨w24.heap.size + 1, 0, none⟩) 1 1] 24)) (T := (Sy.Tr.mk 2 S1.t.pos q.1.1 0 [y24.1])) (a := some ⟨w24.heap.size + 1, 0, none⟩) (l := 1) (c := 1) (ty := 24) (H := w25.heap.size + 1) (by simp))
            have hb3 : W1.heap.size ≤ ((w25.alloc (.cells #[.int .i64 2, .int .i64 S1.t.pos, .string ⟨q.1.1.toArray⟩, .int .i64 0, .slice (some ⟨w24.heap.size + 1, 0, none⟩) 1 1] 24)).alloc (.cells #[.int .i64 2, .int .i64 S1.t.pos, .string ⟨q.1.1.toArray⟩, .int .i64 0, .slice (some ⟨w24.heap.size + 1, 0, none⟩) 1 1] 24)).heap.size := HP2.out.size
            obtain ⟨⟨e0, e1, e2, e3, e4⟩, e5, e6, e7, e8, e9⟩ := blk5 HP1.out.cells
            have hlA : w1.heap.size < w25.heap.size := HP1.out.cells.lt
            have hneA1 : ¬ w1.heap.size = w25.heap.size := by omega
            have hneA2 : ¬ w1.heap.size = w25.heap.size + 1 := by omega
            have KQQ : Hid (Kids ((w25.alloc (.cells #[.int .i64 2, .int .i64 S1.t.pos, .string ⟨q.1.1.toArray⟩, .int .i64 0, .slice (some ⟨w24.heap.size + 1, 0, none⟩) 1 1] 24)).alloc (.cells #[.int .i64 2, .int .i64 S1.t.pos, .string ⟨q.1.1.toArray⟩, .int .i64 0, .slice (some ⟨w24.heap.size + 1, 0, none⟩) 1 1] 24)) (Fo W1.heap.size v) (.slice (some ⟨w24.heap.size + 1, 0, none⟩) 1 1) (Sy.Tr.mk 2 S1.t.pos q.1.1 0 [y24.1]).kids) := (HKZ.out.pastF ((Below.refl _ _).alloc (Nat.le_refl _) _)).pastF ((Below.refl _ _).alloc (Nat.le_refl _) _)
            have hcn : (ls.length : Int) ≤ 100000 := by have := HLN.out; omega
            go_wp2_with (at_builtin; go_must (refine wpList_append_lies _ rfl _ _ 22 rfl W1.heap.size 24 i0 (.agg #[.int .i64 0, .int .i64 0, .string ⟨#[]⟩, .int .i64 0, .slice none 0 0]) 5 64 Tryz.underlying22 hi hiz0 hiz1 hiz2 rfl (by decide) v ls.length (rowCells ls) rfl HP2.out.row.own ⟨w25.heap.size + 1, 0, none⟩ 1 1 (nodeCells (Sy.Tr.mk 2 S1.t.pos q.1.1 0 [y24.1]) (.slice (some ⟨w24.heap.size + 1, 0, none⟩) 1 1)) rfl rfl HNW.out (node_one _ _ _ _) (by decide) HLB.out.1 HLB.out.2 hb3 _ rfl ?_); intro g cap w9 hown hgrow hat hlt3; have HG := hid (HP2.out.grown (T2 := (Sy.Tr.mk 2 S1.t.pos q.1.1 0 [y24.1])) (kv := .slice (some ⟨w24.heap.size + 1, 0, none⟩) 1 1) (by omega) (by omega) (by omega) (by omega) hown hgrow hat KQQ.out); obtain ⟨⟨z0, z1, z2, z3, z4⟩, z5, z6, z7, z8, z9⟩ := blk5 HG.out.2.1)
            have HPP := hid (pg_put HG.out (by omega) (by omega) (by omega) (by omega))
            clear z0 z1 z2 z3 z4 z5 z6 z7 z8 z9 hown hgrow hat
            have HEQ2 : Hid (Sy.defsA z N m ((ls ++ [((Sy.Tr.mk 2 S1.t.pos q.1.1 0 [y24.1]), (.slice (some ⟨w24.heap.size + 1, 0, none⟩) 1 1 : Value))]).map (·.1)) y24.2 = dd) := by
              have h := HEQ.out
              rw [Sy.defsA] at h
              simp only [hde, if_true, hrc, HHS.out, Bool.false_eq_true, if_false, HQ.out, HY24.out] at h
              simp only [Hid, List.map_append, List.map_cons, List.map_nil]
              exact h
            go_roundg m
            case measure => omega
            case rel => exact ⟨ls ++ [((Sy.Tr.mk 2 S1.t.pos q.1.1 0 [y24.1]), .slice (some ⟨w24.heap.size + 1, 0, none⟩) 1 1)], _, _, HPP, HEQ2, Nat.lt_of_le_of_lt HMT2.out HM1N.out, Nat.lt_of_le_of_lt HMT2.out HM1.out, by have := HLN.out; simp only [Hid, List.length_append, List.length_cons, List.length_nil]; omega⟩
        | false =>
          obtain ⟨r0, r1, r2, r3, r4, HRSA0⟩ := HLr.out.res
          have HRSA := hid HRSA0
          clear HRSA0
          have HD : Hid (dd = (ls.map (·.1), S1)) := by rw [Hid, ← HEQ.out, Sy.defsA]; simp [hde]
          go_wp2_with fail
          refine (is_q _ b s z S1 0 0 Sy.w_def HLr.out.rd).mono ?_
          rintro en w' ⟨rfl, rfl⟩
          go_wp2_with fail
          refine (must_m _ b s z S1 0 0 Sy.w_main HLr.out.rd).mono ?_
          rintro en w21 ⟨rfl, hr21, hk21⟩
          have HR21 := hid hr21
          have HK21 := hid hk21
          clear hr21 hk21
          have HRS21 := hid (HRSA.out.kp HK21.out (by omega))
          have HKA21 := hid ((Kp.refl b wr).trans HK21.out)
          have ht21 := HK21.out.size
          go_wp2_with fail
          refine (must_m _ b s z (Sy.mustA z Sy.w_main S1) 0 0 Sy.s_eq HR21.out).mono ?_
          rintro en w22 ⟨rfl, hr22, hk22⟩
          have HR22 := hid hr22
          have HK22 := hid hk22
          clear hr22 hk22
          have HRS22 := hid (HRS21.out.kp HK22.out (by omega))
          have HKA22 := hid (HKA21.out.trans HK22.out)
          have ht22 := HK22.out.size
          go_wp2_with fail
          have HM1 : Hid (Sy.mu (Sy.mustA z Sy.s_eq (Sy.mustA z Sy.w_main S1)) < N) := Nat.lt_of_le_of_lt (Nat.le_trans (Sy.mu_must z _ _) (Sy.mu_must z _ _)) HMS.out
          have HX0 : Hid (Sy.progA z N S = (.mk 0 0 [] cnt (ls.map (·.1) ++ [(Sy.exprA z N 200 (Sy.mustA z Sy.s_eq (Sy.mustA z Sy.w_main S1))).1]), (Sy.exprA z N 200 (Sy.mustA z Sy.s_eq (Sy.mustA z Sy.w_main S1))).2)) := by rw [Hid, HPR.out, HD.out]
          refine (HE.out w22 b s z (Sy.mustA z Sy.s_eq (Sy.mustA z Sy.w_main S1)) 0 HR22.out HM1.out).mono ?_
          rintro en w23 ⟨a23, l23, c23, rfl, HKd23, HR23, HK23⟩
          generalize hy23 : Sy.exprA z N 200 (Sy.mustA z Sy.s_eq (Sy.mustA z Sy.w_main S1)) = y23 at *
          have HY23 := hid hy23
          clear hy23
          obtain ⟨W23, hW23, HV23, HRd23, HKp23, hs23, ht23⟩ := var_new HKd23.out HR23.out HK23.out 24
          have HRS23 := hid (HRS22.out.kp HKp23.out (by omega))
          have HKA23 := hid (HKA22.out.trans HKp23.out)
          have HNE : Hid (∀ q, wr.heap.size ≤ q → some q ≠ v.ownBlock) := fun q hq e => by have := (HLr.out.row.own.lt q e.symm).2; omega
          have HPG := hid (HLr.out.step HRd23.out HKA23.out (by omega) (by omega) (by omega))
          have HP2 := hid (HPG.out.past ((Below.refl _ _).alloc (Nat.le_refl _) (.cells #[.int .i64 y23.1.kind, .int .i64 y23.1.pos, .string ⟨y23.1.name.toArray⟩, .int .i64 y23.1.num, .slice a23 l23 c23] 24)))
          have HNW := hid (node_news (w := W23) (T := y23.1) (a := a23) (l := l23) (c := c23) (ty := 24) (H := w23.heap.size + 1) hs23)
          have hb3 : W1.heap.size ≤ (W23.alloc (.cells #[.int .i64 y23.1.kind, .int .i64 y23.1.pos, .string ⟨y23.1.name.toArray⟩, .int .i64 y23.1.num, .slice a23 l23 c23] 24)).heap.size := HP2.out.size
          have KQQ : Hid (Kids (W23.alloc (.cells #[.int .i64 y23.1.kind, .int .i64 y23.1.pos, .string ⟨y23.1.name.toArray⟩, .int .i64 y23.1.num, .slice a23 l23 c23] 24)) (Fo W1.heap.size v) (.slice a23 l23 c23) y23.1.kids) := (HV23.out.kids.weak (fun q hq _ => ⟨by have := hq.1; omega, HNE.out q (by have := hq.1; omega)⟩)).pastF ((Below.refl _ _).alloc (Nat.le_refl _) _)
          obtain ⟨⟨e0, e1, e2, e3, e4⟩, e5, e6, e7, e8, e9⟩ := blk5 HPG.out.cells
          obtain ⟨⟨q23_0, q23_1, q23_2, q23_3, q23_4⟩, q23_5, q23_6, q23_7, q23_8, q23_9⟩ := blk5 HV23.out.cells
          have hlA : w1.heap.size < W23.heap.size := HPG.out.cells.lt
          have hlA2 : w1.heap.size < w23.heap.size + 1 := by omega
          have hneA1 : ¬ w1.heap.size = w23.heap.size + 1 := by omega
          have hneR : w.heap.size ≠ w1.heap.size := by omega
          have hneR2 : ¬ w1.heap.size = w.heap.size := by omega
          go_wp2_with (at_builtin; go_must (refine wpList_append_lies _ rfl _ _ 22 rfl W1.heap.size 24 i0 (.agg #[.int .i64 0, .int .i64 0, .string ⟨#[]⟩, .int .i64 0, .slice none 0 0]) 5 64 Tryz.underlying22 hi hiz0 hiz1 hiz2 rfl (by decide) v ls.length (rowCells ls) rfl HP2.out.row.own ⟨w23.heap.size + 1, 0, none⟩ 1 1 (nodeCells y23.1 (.slice a23 l23 c23)) rfl rfl HNW.out (node_one _ _ _ _) (by decide) HLB.out.1 HLB.out.2 hb3 _ rfl ?_); intro g cap w9 hown hgrow hat hlt3; have HG := hid (HP2.out.grown (T2 := y23.1) (kv := .slice a23 l23 c23) (by omega) (by omega) (by omega) (by omega) hown hgrow hat KQQ.out); obtain ⟨⟨z0, z1, z2, z3, z4⟩, z5, z6, z7, z8, z9⟩ := blk5 HG.out.2.1; obtain ⟨s0, s1, s2, s3, s4, HRZ⟩ := HG.out.2.2.1; obtain ⟨⟨u0, u1, u2, u3, u4⟩, u5, u6, u7, u8, u9⟩ := blk5 HRZ)
          have HPP := hid (pg_put HG.out (by omega) (by omega) (by omega) (by omega))
          refine bodyPost_ret (v := .agg #[.int .i64 0, .int .i64 0, .string ⟨#[]⟩, .int .i64 cnt, .slice (some ⟨g, 0, none⟩) (ls.length + 1) cap]) (by simp [results, Tryz.results16, go_sem, u0, u1, u2, u3, u4]) rfl ?_
          exact nres_fin (lo := W1.heap.size) (.mk 0 0 [] cnt (ls.map (·.1) ++ [y23.1])) y23.2 (by have h := HPP.out.row.kidsOf (by simp) (by simp); rw [List.map_append] at h; exact h) HPP.out.rd HPP.out.kp HX0.out (by omega) (by omega) (by omega) _ _ _ _ rfl rfl rfl rfl _ _ _ _ _
end Go.Proofs.YtedppdcknkcbjaaGreatDoor
