/-
  What the program's rules that are loops do: product, sum, application.
-/
import Derived.Test.YtoajnlhegallpaaGreatDoorMDf
import Derived.Deep.LoopGhost
set_option linter.unusedVariables false
set_option linter.unusedSimpArgs false
set_option maxRecDepth 100000
set_option maxHeartbeats 4000000
namespace Go.Proofs.YtoajnlhegallpaaGreatDoor
open Go.RowKit

structure Lw (w : World) (b A R lo : Nat) (z : Sy.Env) (T : Sy.Tr) (ts : List Lx.Tk) (e d : Nat) (W : World) : Prop where
 var : ∃ a l c, Vr W A lo T a l c
 res : ∃ r0 r1 r2 r3 r4, Blk W R [r0, r1, r2, r3, r4]
 rd : Dr W b z ts e d
 kp : Kp b w W

theorem lw_put {w w2 : World} {b A R lo e d : Nat} {z : Sy.Env} {ts : List Lx.Tk} {o0 o1 o2 o3 o4 r0 r1 r2 r3 r4 : Value} (hA : Blk w2 A [o0, o1, o2, o3, o4]) (hR : Blk w2 R [r0, r1, r2, r3, r4])
  (h1 : R ≠ A) (h2 : b < A) (h4 : w.heap.size ≤ A) (hr : Dr w2 b z ts e d) (T : Sy.Tr) {a : Option Addr} {l c : Nat} (hk : Kids w2 (Fr lo A) (.slice a l c) T.kids) (hkp : Kp b w w2)
  (kk pp nn : Int) (xx : ByteArray) (e1 : kk = T.kind) (e2 : pp = T.pos) (e3 : xx = ⟨T.name.toArray⟩) (e4 : nn = T.num) :
  ∃ W, ((((w2.setCell ⟨A, 0, none⟩ (.int .i64 kk)).setCell ⟨A, 1, none⟩ (.int .i64 pp)).setCell ⟨A, 2, none⟩ (.string xx)).setCell ⟨A, 3, none⟩ (.int .i64 nn)).setCell ⟨A, 4, none⟩ (.slice a l c) = W ∧ Hid (Lw w b A R lo z T ts e d W) := by
 subst e1 e2 e3 e4
 refine ⟨_, rfl, ⟨a, l, c, hA.store _ _ _ _ _, ?_⟩, ⟨r0, r1, r2, r3, r4, hR.of_heap (sto5_heap _ _ _ _ _ _ _ _ h1)⟩, hr.sto5 h2 _ _ _ _ _, sto5_kp hkp h4 _ _ _ _ _⟩
 exact hk.carry (fun g hg _ => sto5_heap _ _ _ _ _ _ _ _ hg.2) (fun g hg _ => hg)

theorem dproduct (N e d : Nat) (z : Sy.Env) (E : List Lx.Tk → Sy.R Sy.Tr) (hE : EOK N e d z E) (hC : ROK 160 N e d z (Sy.appB z N E)) : ROK 156 N e d z (Sy.mulB z N E) := by
 intro w b ts h hn
 have H := hid h
 have hbR : b < w.heap.size := h.lt
 clear h
 go_enter Tryz.func156, Tryz.ntmps156
 go_wp2_with fail
 obtain ⟨W0, hW0, HI⟩ := jn1 H.out 24
 rw [hW0]
 clear hW0
 have hz0 := HI.out.size
 refine (hC _ b ts (by repeat (with_reducible (first | exact HI.out.rd | apply Dr.drew))) hn).mono ?_
 intro en w1 HD
 rcases hx1 : Sy.appB z N E ts with f1 | ⟨y1, ts1⟩
 ·obtain ⟨rfl, HK1⟩ := HD.no hx1
  have HKE := hid ((show Kp b w _ by repeat (with_reducible (first | exact HI.out.kp | apply Kp.drew))).trans HK1.out)
  go_wp2_with fail
  exact ⟨rfl, DRes.err (by simp [Sy.mulB, Sy.iteB_takes, Sy.bnd, hx1]) HKE.out⟩
 have H1 := hid hx1
 have hn1 : ts1.length < N := Nat.lt_of_le_of_lt (le_app (fun ts h => hE.le _ ts h) _ (Nat.le_refl _) _ _ hx1) hn
 obtain ⟨a1, l1, c1, rfl, HKd1, HR1, HK1⟩ := HD.yes hx1
 clear hx1 HD
 obtain ⟨W1, hW1, HV1, HRd1, HKp1, hs1, ht1⟩ := jvar_new HKd1.out HR1.out HK1.out 24
 have HRS1 := hid ((show Blk _ w.heap.size [_, _, _, _, _] by repeat (with_reducible (first | exact HI.out.one | apply Blk.drew))).kp HKp1.out (by omega))
 have HKA1 := hid ((show Kp b w _ by repeat (with_reducible (first | exact HI.out.kp | apply Kp.drew))).trans HKp1.out)
 have hne1 : ¬ w1.heap.size = w.heap.size := by omega
 have hno1 : ¬ w.heap.size = w1.heap.size := by omega
 go_wp2_with fail
 try rw [hW1]
 clear hW1
 have HLW : Hid (Lw w b w1.heap.size w.heap.size W0.heap.size z y1 ts1 e d W1) := ⟨⟨_, _, _, HV1.out⟩, ⟨_, _, _, _, _, HRS1.out⟩, HRd1.out, HKA1.out⟩
 go_loopg [] N (fun n wr => ∃ (T : Sy.Tr) (tr : List Lx.Tk), Hid (Lw w b w1.heap.size w.heap.size W0.heap.size z T tr e d wr) ∧ Hid (Sy.mulsB z N E n T tr = Sy.mulB z N E ts) ∧ Hid (tr.length < n) ∧ tr.length < N)
 case atStart => exact ⟨_, _, HLW, hid (by simp [Sy.mulB, Sy.iteB_takes, Sy.bnd, H1.out]), hn1, hn1⟩
 case round =>
  obtain ⟨T, tr, HLR, HE, HM, hnr⟩ := hrel
  obtain ⟨m, hm⟩ : ∃ m, gk = m + 1 := ⟨gk - 1, by have := HM.out; omega⟩
  subst hm
  obtain ⟨aA, lA, cA, hVA⟩ := HLR.out.var
  obtain ⟨r0, r1, r2, r3, r4, hRSA⟩ := HLR.out.res
  have HVA := hid hVA
  have HRSA := hid hRSA
  have hwr : w1.heap.size < wr.heap.size := hVA.lt
  clear hVA hRSA
  go_wp2_with fail
  rcases hl12 : Sy.lookB z tr with f12 | ⟨t12, us12⟩
  ·refine (dsees _ b z tr e d Sy.s_star (by repeat (with_reducible (first | exact HLR.out.rd | apply Dr.drew)))).mono ?_
   intro en w12 HD
   obtain ⟨rfl, HK12⟩ := HD.no (f := f12) (by simp [Sy.seesB, Sy.bnd, hl12])
   have HKE := hid ((show Kp b w _ by repeat (with_reducible (first | exact HLR.out.kp | apply Kp.drew))).trans HK12.out)
   go_wp2_with fail
   exact ⟨rfl, DRes.err (by rw [← HE.out]; simp [Sy.mulsB, Sy.takesB, Sy.iteB_takes, Sy.bnd, hl12]) HKE.out⟩
  have HL12 : Hid (Sy.lookB z tr = .ok (t12, tr)) := by obtain ⟨h1, _⟩ := look_ok hl12; rw [Hid, hl12, h1]
  clear hl12
  refine (dsees _ b z tr e d Sy.s_star (by repeat (with_reducible (first | exact HLR.out.rd | apply Dr.drew)))).mono ?_
  intro en w13 HD
  obtain ⟨rfl, HR13, HK13⟩ := HD.yes (a := t12.text == Sy.s_star) (ts := tr) (by simp [Sy.seesB, Sy.bnd, HL12.out])
  clear HD
  have ht13 := HK13.out.size
  have HVA_13 := hid ((show Vr _ w1.heap.size W0.heap.size T aA lA cA by repeat (with_reducible (first | exact HVA.out | apply Vr.drew))).kp HK13.out (by omega) (by omega))
  have HRS13 := hid ((show Blk _ w.heap.size [_, _, _, _, _] by repeat (with_reducible (first | exact HRSA.out | apply Blk.drew))).kp HK13.out (by omega))
  have HKA13 := hid ((show Kp b w _ by repeat (with_reducible (first | exact HLR.out.kp | apply Kp.drew))).trans HK13.out)
  cases hv_s_star : (t12.text == Sy.s_star) with
  | true =>
   go_wp2_with fail
   have HTS12 : Hid (tr = t12 :: tr.tail) := look_some HL12.out (.inl (text_ne hv_s_star (by decide)))
   have hlt12 : tr.tail.length < N := by simp only [List.length_tail]; omega
   obtain ⟨hf12_0, hf12_1, hf12_2, hf12_3⟩ := fld_tk (.int .i64 t12.kind) (.int .i64 t12.pos) (.string ⟨t12.text.toArray⟩) (.int .i64 t12.num)
   refine (dtake _ b z t12 tr.tail e d (by rw [← HTS12.out]; repeat (with_reducible (first | exact HR13.out | apply Dr.drew)))).mono ?_
   intro en w14 HD
   obtain ⟨rfl, HR14, HK14⟩ := HD.yes rfl
   dsimp only [tkV]
   clear HD
   have ht14 := HK14.out.size
   have HVA_14 := hid ((show Vr _ w1.heap.size W0.heap.size T aA lA cA by repeat (with_reducible (first | exact HVA_13.out | apply Vr.drew))).kp HK14.out (by omega) (by omega))
   have HRS14 := hid ((show Blk _ w.heap.size [_, _, _, _, _] by repeat (with_reducible (first | exact HRS13.out | apply Blk.drew))).kp HK14.out (by omega))
   have HKA14 := hid ((show Kp b w _ by repeat (with_reducible (first | exact HKA13.out | apply Kp.drew))).trans HK14.out)
   have HTX : Hid (t12.text = _) := eq_of_beq hv_s_star
   have hlt : tr.tail.length < tr.length := by have h0 := congrArg List.length HTS12.out; simp only [List.length_cons] at h0; omega
   obtain ⟨⟨q1_0, q1_1, q1_2, q1_3, q1_4⟩, q1_5, q1_6, q1_7, q1_8, q1_9⟩ := blk5 HVA_14.out.cells
   obtain ⟨⟨u2_0, u2_1, u2_2, u2_3, u2_4⟩, u2_5, u2_6, u2_7, u2_8, u2_9⟩ := blk5 HRS14.out
   go_wp2_with fail
   rcases hx15 : Sy.appB z N E tr.tail with f15 | ⟨y15, ts15⟩
   ·skip
    refine wp_region_held_drew (S := (fun w' => w'.cell? ⟨w1.heap.size, 0, none⟩ = some (.int .i64 T.kind) ∧ w'.cell? ⟨w1.heap.size, 1, none⟩ = some (.int .i64 T.pos) ∧ w'.cell? ⟨w1.heap.size, 2, none⟩ = some (.string ⟨T.name.toArray⟩) ∧ w'.cell? ⟨w1.heap.size, 3, none⟩ = some (.int .i64 T.num) ∧ w'.cell? ⟨w1.heap.size, 4, none⟩ = some (.slice aA lA cA))) (by kernel_rfl) (by first | trivial | (dsimp only; go_keep)) (fun hHeld => ?_)
    refine wpAnyH_take (i := 0) (v := ?vv0_1) rfl (by kernel_rfl) (by kernel_rfl) (by kernel_rfl) (fun _ _ _ h => h) (Or.inl ⟨by rfl, ?yy0_1⟩) (by assumption) ?rr0_1
    case yy0_1 => (intro w hSw; (try dsimp only at hSw); go_simp; (try with_reducible rfl))
    try simp only [Act.put, List.setIfInBounds_toArray, List.set_cons_zero, List.set_cons_succ]
    refine wpAnyH_take (i := 1) (v := ?vv1_1) rfl (by kernel_rfl) (by kernel_rfl) (by kernel_rfl) (fun _ _ _ h => h) (Or.inl ⟨by rfl, ?yy1_1⟩) (by assumption) ?rr1_1
    case yy1_1 => (intro w hSw; (try dsimp only at hSw); go_simp; (try with_reducible rfl))
    try simp only [Act.put, List.setIfInBounds_toArray, List.set_cons_zero, List.set_cons_succ]
    refine wpAnyH_take (i := 2) (v := ?vv2_1) rfl (by kernel_rfl) (by kernel_rfl) (by kernel_rfl) (fun _ _ _ h => h) (Or.inl ⟨by rfl, ?yy2_1⟩) (by assumption) ?rr2_1
    case yy2_1 => (intro w hSw; (try dsimp only at hSw); go_simp; (try with_reducible rfl))
    try simp only [Act.put, List.setIfInBounds_toArray, List.set_cons_zero, List.set_cons_succ]
    refine wpAnyH_ready (rs := [3]) (by kernel_rfl) (by simp) (AllReadyH.cons rfl (fun K hK => ?_) AllReadyH.nil)
    go_simp
    refine (hC _ b tr.tail (by repeat (with_reducible (first | exact HR14.out | apply Dr.drew))) hlt12).mono ?_
    intro en w15 HD
    obtain ⟨rfl, HK15⟩ := HD.no hx15
    have HKE := hid ((show Kp b w _ by repeat (with_reducible (first | exact HKA14.out | apply Kp.drew))).trans HK15.out)
    exact ⟨rfl, DRes.err (by rw [← HE.out]; simp [Sy.mulsB, Sy.takesB, Sy.iteB_takes, Sy.bnd, HL12.out, hv_s_star, hx15]) HKE.out⟩
   have H15 := hid hx15
   have hn15 : ts15.length < N := Nat.lt_of_le_of_lt (le_app (fun ts h => hE.le _ ts h) _ (Nat.le_refl _) _ _ hx15) hlt12
   have hm15 : ts15.length < m := by have h1 := (le_app (fun ts h => hE.le _ ts h) _ (Nat.le_refl _) _ _ hx15); have h2 := HM.out; omega
   clear hx15
   go_region_with (first
    | (go_at_call 160; refine (hC _ b tr.tail (by repeat (with_reducible (first | exact HR14.out | apply Dr.drew))) hlt12).mono ?_; intro en w15 HD; obtain ⟨a15, l15, c15, rfl, HKd15, HR15, HK15⟩ := HD.yes H15.out; have ht15 := HK15.out.size; (try simp at ht15); have HVA_15 := hid ((show Vr _ w1.heap.size W0.heap.size T aA lA cA by repeat (with_reducible (first | exact HVA_14.out | apply Vr.drew))).kp HK15.out (by omega) (by omega)); obtain ⟨⟨q3_0, q3_1, q3_2, q3_3, q3_4⟩, q3_5, q3_6, q3_7, q3_8, q3_9⟩ := blk5 HVA_15.out.cells; have HRS15 := hid ((show Blk _ w.heap.size [_, _, _, _, _] by repeat (with_reducible (first | exact HRS14.out | apply Blk.drew))).kp HK15.out (by omega)); have HKA15 := hid ((show Kp b w _ by repeat (with_reducible (first | exact HKA14.out | apply Kp.drew))).trans HK15.out); obtain ⟨⟨u4_0, u4_1, u4_2, u4_3, u4_4⟩, u4_5, u4_6, u4_7, u4_8, u4_9⟩ := blk5 HRS15.out; have HY15 : Hid (Kids w15 (fun g => w14.heap.size ≤ g) (.slice a15 l15 c15) y15.kids) := HKd15.out.weak (fun g hg _ => by (try simp at hg); omega))
    | (go_at_call 108; have HA16 := hid (HVA_15.out.kids); have HC16 : Hid (Kids _ (Fr W0.heap.size w1.heap.size) (.slice a15 l15 c15) y15.kids) := HY15.out.weak (fun g hg _ => ⟨Nat.le_trans (by omega) hg, by omega⟩); refine (djoined _ (Fr W0.heap.size w1.heap.size) 18 T y15 t12.text aA a15 lA cA l15 c15 (fun g hg => by (try simp at hg); exact ⟨by omega, by omega⟩) (by repeat (with_reducible (first | exact HA16.out | apply Kids.drew))) (by repeat (with_reducible (first | exact HC16.out | apply Kids.drew)))).mono ?_; rintro en w16 ⟨g16, rfl, HN16, HB16⟩; have ht16 := HB16.out.size; (try simp at ht16); have HVA_16 := hid ((show Vr _ w1.heap.size W0.heap.size T aA lA cA by repeat (with_reducible (first | exact HVA_15.out | apply Vr.drew))).past HB16.out); obtain ⟨⟨q5_0, q5_1, q5_2, q5_3, q5_4⟩, q5_5, q5_6, q5_7, q5_8, q5_9⟩ := blk5 HVA_16.out.cells; have HRS16 := hid ((show Blk _ w.heap.size [_, _, _, _, _] by repeat (with_reducible (first | exact HRS15.out | apply Blk.drew))).past HB16.out); have HKA16 := hid ((show Kp b w _ by repeat (with_reducible (first | exact HKA15.out | apply Kp.drew))).below HB16.out); obtain ⟨⟨u6_0, u6_1, u6_2, u6_3, u6_4⟩, u6_5, u6_6, u6_7, u6_8, u6_9⟩ := blk5 HRS16.out; have HR16 := hid ((show Dr _ b z ts15 e d by repeat (with_reducible (first | exact HR15.out | apply Dr.drew))).below HB16.out)))
   all_goals
    have HAC := hid HVA_16.out.cells
    obtain ⟨V, hV, HLV⟩ := lw_put (w := w) (lo := W0.heap.size) HAC.out HRS16.out (by omega) (by omega) (by omega) HR16.out (Sy.op2 t12.text T y15) (a := (some ⟨g16, 0, none⟩)) (l := 2) (c := 2) HN16.out HKA16.out 18 T.pos 0 ⟨t12.text.toArray⟩ rfl rfl rfl rfl
    have HVV := hid hV
    clear hV
    go_wp2_with fail
    rw [HVV.out]
    go_roundg m
    case measure => omega
    case rel => exact ⟨_, _, HLV, hid (by rw [← HE.out]; simp [Sy.mulsB, Sy.takesB, Sy.iteB_takes, Sy.bnd, HL12.out, hv_s_star, H15.out, HTX.out]), hm15, hn15⟩
  | false =>
   obtain ⟨⟨q1_0, q1_1, q1_2, q1_3, q1_4⟩, q1_5, q1_6, q1_7, q1_8, q1_9⟩ := blk5 HVA_13.out.cells
   obtain ⟨⟨u2_0, u2_1, u2_2, u2_3, u2_4⟩, u2_5, u2_6, u2_7, u2_8, u2_9⟩ := blk5 HRS13.out
   go_wp2_with fail
   refine bodyPost_ret (v := .agg #[.int .i64 T.kind, .int .i64 T.pos, .string ⟨T.name.toArray⟩, .int .i64 T.num, .slice aA lA cA]) (by simp [results, Tryz.results156, go_sem, u2_0, u2_1, u2_2, u2_3, u2_4]) rfl ?_
   exact dres_fin (lo := W0.heap.size) T tr (HVA_13.out.kids.free (by omega)) HR13.out HKA13.out (by rw [← HE.out]; simp [Sy.mulsB, Sy.takesB, Sy.iteB_takes, Sy.bnd, HL12.out, hv_s_star]) (by omega) (by omega) (by omega) _ _ _ _ rfl rfl rfl rfl _ _ _ _ _
theorem dsum (N e d : Nat) (z : Sy.Env) (E : List Lx.Tk → Sy.R Sy.Tr) (hE : EOK N e d z E) (hC : ROK 156 N e d z (Sy.mulB z N E)) : ROK 149 N e d z (Sy.sumB z N E) := by
 intro w b ts h hn
 have H := hid h
 have hbR : b < w.heap.size := h.lt
 clear h
 go_enter Tryz.func149, Tryz.ntmps149
 go_wp2_with fail
 obtain ⟨W0, hW0, HI⟩ := jn1 H.out 24
 rw [hW0]
 clear hW0
 have hz0 := HI.out.size
 refine (hC _ b ts (by repeat (with_reducible (first | exact HI.out.rd | apply Dr.drew))) hn).mono ?_
 intro en w1 HD
 rcases hx1 : Sy.mulB z N E ts with f1 | ⟨y1, ts1⟩
 ·obtain ⟨rfl, HK1⟩ := HD.no hx1
  have HKE := hid ((show Kp b w _ by repeat (with_reducible (first | exact HI.out.kp | apply Kp.drew))).trans HK1.out)
  go_wp2_with fail
  exact ⟨rfl, DRes.err (by simp [Sy.sumB, Sy.iteB_takes, Sy.bnd, hx1]) HKE.out⟩
 have H1 := hid hx1
 have hn1 : ts1.length < N := Nat.lt_of_le_of_lt (le_mul (fun ts h => hE.le _ ts h) _ (Nat.le_refl _) _ _ hx1) hn
 obtain ⟨a1, l1, c1, rfl, HKd1, HR1, HK1⟩ := HD.yes hx1
 clear hx1 HD
 obtain ⟨W1, hW1, HV1, HRd1, HKp1, hs1, ht1⟩ := jvar_new HKd1.out HR1.out HK1.out 24
 have HRS1 := hid ((show Blk _ w.heap.size [_, _, _, _, _] by repeat (with_reducible (first | exact HI.out.one | apply Blk.drew))).kp HKp1.out (by omega))
 have HKA1 := hid ((show Kp b w _ by repeat (with_reducible (first | exact HI.out.kp | apply Kp.drew))).trans HKp1.out)
 have hne1 : ¬ w1.heap.size = w.heap.size := by omega
 have hno1 : ¬ w.heap.size = w1.heap.size := by omega
 go_wp2_with fail
 try rw [hW1]
 clear hW1
 have HLW : Hid (Lw w b w1.heap.size w.heap.size W0.heap.size z y1 ts1 e d W1) := ⟨⟨_, _, _, HV1.out⟩, ⟨_, _, _, _, _, HRS1.out⟩, HRd1.out, HKA1.out⟩
 go_loopg [] N (fun n wr => ∃ (T : Sy.Tr) (tr : List Lx.Tk), Hid (Lw w b w1.heap.size w.heap.size W0.heap.size z T tr e d wr) ∧ Hid (Sy.sumsB z N E n T tr = Sy.sumB z N E ts) ∧ Hid (tr.length < n) ∧ tr.length < N)
 case atStart => exact ⟨_, _, HLW, hid (by simp [Sy.sumB, Sy.iteB_takes, Sy.bnd, H1.out]), hn1, hn1⟩
 case round =>
  obtain ⟨T, tr, HLR, HE, HM, hnr⟩ := hrel
  obtain ⟨m, hm⟩ : ∃ m, gk = m + 1 := ⟨gk - 1, by have := HM.out; omega⟩
  subst hm
  obtain ⟨aA, lA, cA, hVA⟩ := HLR.out.var
  obtain ⟨r0, r1, r2, r3, r4, hRSA⟩ := HLR.out.res
  have HVA := hid hVA
  have HRSA := hid hRSA
  have hwr : w1.heap.size < wr.heap.size := hVA.lt
  clear hVA hRSA
  go_wp2_with fail
  rcases hl12 : Sy.lookB z tr with f12 | ⟨t12, us12⟩
  ·refine (dsees _ b z tr e d Sy.s_plus (by repeat (with_reducible (first | exact HLR.out.rd | apply Dr.drew)))).mono ?_
   intro en w12 HD
   obtain ⟨rfl, HK12⟩ := HD.no (f := f12) (by simp [Sy.seesB, Sy.bnd, hl12])
   have HKE := hid ((show Kp b w _ by repeat (with_reducible (first | exact HLR.out.kp | apply Kp.drew))).trans HK12.out)
   go_wp2_with fail
   exact ⟨rfl, DRes.err (by rw [← HE.out]; simp [Sy.sumsB, Sy.takesB, Sy.iteB_takes, Sy.bnd, hl12]) HKE.out⟩
  have HL12 : Hid (Sy.lookB z tr = .ok (t12, tr)) := by obtain ⟨h1, _⟩ := look_ok hl12; rw [Hid, hl12, h1]
  clear hl12
  refine (dsees _ b z tr e d Sy.s_plus (by repeat (with_reducible (first | exact HLR.out.rd | apply Dr.drew)))).mono ?_
  intro en w13 HD
  obtain ⟨rfl, HR13, HK13⟩ := HD.yes (a := t12.text == Sy.s_plus) (ts := tr) (by simp [Sy.seesB, Sy.bnd, HL12.out])
  clear HD
  have ht13 := HK13.out.size
  have HVA_13 := hid ((show Vr _ w1.heap.size W0.heap.size T aA lA cA by repeat (with_reducible (first | exact HVA.out | apply Vr.drew))).kp HK13.out (by omega) (by omega))
  have HRS13 := hid ((show Blk _ w.heap.size [_, _, _, _, _] by repeat (with_reducible (first | exact HRSA.out | apply Blk.drew))).kp HK13.out (by omega))
  have HKA13 := hid ((show Kp b w _ by repeat (with_reducible (first | exact HLR.out.kp | apply Kp.drew))).trans HK13.out)
  cases hv_s_plus : (t12.text == Sy.s_plus) with
  | true =>
   go_wp2_with fail
   have HTS12 : Hid (tr = t12 :: tr.tail) := look_some HL12.out (.inl (text_ne hv_s_plus (by decide)))
   have hlt12 : tr.tail.length < N := by simp only [List.length_tail]; omega
   obtain ⟨hf12_0, hf12_1, hf12_2, hf12_3⟩ := fld_tk (.int .i64 t12.kind) (.int .i64 t12.pos) (.string ⟨t12.text.toArray⟩) (.int .i64 t12.num)
   refine (dtake _ b z t12 tr.tail e d (by rw [← HTS12.out]; repeat (with_reducible (first | exact HR13.out | apply Dr.drew)))).mono ?_
   intro en w14 HD
   obtain ⟨rfl, HR14, HK14⟩ := HD.yes rfl
   dsimp only [tkV]
   clear HD
   have ht14 := HK14.out.size
   have HVA_14 := hid ((show Vr _ w1.heap.size W0.heap.size T aA lA cA by repeat (with_reducible (first | exact HVA_13.out | apply Vr.drew))).kp HK14.out (by omega) (by omega))
   have HRS14 := hid ((show Blk _ w.heap.size [_, _, _, _, _] by repeat (with_reducible (first | exact HRS13.out | apply Blk.drew))).kp HK14.out (by omega))
   have HKA14 := hid ((show Kp b w _ by repeat (with_reducible (first | exact HKA13.out | apply Kp.drew))).trans HK14.out)
   have HTX : Hid (t12.text = _) := eq_of_beq hv_s_plus
   have hlt : tr.tail.length < tr.length := by have h0 := congrArg List.length HTS12.out; simp only [List.length_cons] at h0; omega
   obtain ⟨⟨q1_0, q1_1, q1_2, q1_3, q1_4⟩, q1_5, q1_6, q1_7, q1_8, q1_9⟩ := blk5 HVA_14.out.cells
   obtain ⟨⟨u2_0, u2_1, u2_2, u2_3, u2_4⟩, u2_5, u2_6, u2_7, u2_8, u2_9⟩ := blk5 HRS14.out
   go_wp2_with fail
   rcases hx15 : Sy.mulB z N E tr.tail with f15 | ⟨y15, ts15⟩
   ·skip
    refine wp_region_held_drew (S := (fun w' => w'.cell? ⟨w1.heap.size, 0, none⟩ = some (.int .i64 T.kind) ∧ w'.cell? ⟨w1.heap.size, 1, none⟩ = some (.int .i64 T.pos) ∧ w'.cell? ⟨w1.heap.size, 2, none⟩ = some (.string ⟨T.name.toArray⟩) ∧ w'.cell? ⟨w1.heap.size, 3, none⟩ = some (.int .i64 T.num) ∧ w'.cell? ⟨w1.heap.size, 4, none⟩ = some (.slice aA lA cA))) (by kernel_rfl) (by first | trivial | (dsimp only; go_keep)) (fun hHeld => ?_)
    refine wpAnyH_take (i := 0) (v := ?vv0_2) rfl (by kernel_rfl) (by kernel_rfl) (by kernel_rfl) (fun _ _ _ h => h) (Or.inl ⟨by rfl, ?yy0_2⟩) (by assumption) ?rr0_2
    case yy0_2 => (intro w hSw; (try dsimp only at hSw); go_simp; (try with_reducible rfl))
    try simp only [Act.put, List.setIfInBounds_toArray, List.set_cons_zero, List.set_cons_succ]
    refine wpAnyH_take (i := 1) (v := ?vv1_2) rfl (by kernel_rfl) (by kernel_rfl) (by kernel_rfl) (fun _ _ _ h => h) (Or.inl ⟨by rfl, ?yy1_2⟩) (by assumption) ?rr1_2
    case yy1_2 => (intro w hSw; (try dsimp only at hSw); go_simp; (try with_reducible rfl))
    try simp only [Act.put, List.setIfInBounds_toArray, List.set_cons_zero, List.set_cons_succ]
    refine wpAnyH_take (i := 2) (v := ?vv2_2) rfl (by kernel_rfl) (by kernel_rfl) (by kernel_rfl) (fun _ _ _ h => h) (Or.inl ⟨by rfl, ?yy2_2⟩) (by assumption) ?rr2_2
    case yy2_2 => (intro w hSw; (try dsimp only at hSw); go_simp; (try with_reducible rfl))
    try simp only [Act.put, List.setIfInBounds_toArray, List.set_cons_zero, List.set_cons_succ]
    refine wpAnyH_ready (rs := [3]) (by kernel_rfl) (by simp) (AllReadyH.cons rfl (fun K hK => ?_) AllReadyH.nil)
    go_simp
    refine (hC _ b tr.tail (by repeat (with_reducible (first | exact HR14.out | apply Dr.drew))) hlt12).mono ?_
    intro en w15 HD
    obtain ⟨rfl, HK15⟩ := HD.no hx15
    have HKE := hid ((show Kp b w _ by repeat (with_reducible (first | exact HKA14.out | apply Kp.drew))).trans HK15.out)
    exact ⟨rfl, DRes.err (by rw [← HE.out]; simp [Sy.sumsB, Sy.takesB, Sy.iteB_takes, Sy.bnd, HL12.out, hv_s_plus, hx15]) HKE.out⟩
   have H15 := hid hx15
   have hn15 : ts15.length < N := Nat.lt_of_le_of_lt (le_mul (fun ts h => hE.le _ ts h) _ (Nat.le_refl _) _ _ hx15) hlt12
   have hm15 : ts15.length < m := by have h1 := (le_mul (fun ts h => hE.le _ ts h) _ (Nat.le_refl _) _ _ hx15); have h2 := HM.out; omega
   clear hx15
   go_region_with (first
    | (go_at_call 156; refine (hC _ b tr.tail (by repeat (with_reducible (first | exact HR14.out | apply Dr.drew))) hlt12).mono ?_; intro en w15 HD; obtain ⟨a15, l15, c15, rfl, HKd15, HR15, HK15⟩ := HD.yes H15.out; have ht15 := HK15.out.size; (try simp at ht15); have HVA_15 := hid ((show Vr _ w1.heap.size W0.heap.size T aA lA cA by repeat (with_reducible (first | exact HVA_14.out | apply Vr.drew))).kp HK15.out (by omega) (by omega)); obtain ⟨⟨q3_0, q3_1, q3_2, q3_3, q3_4⟩, q3_5, q3_6, q3_7, q3_8, q3_9⟩ := blk5 HVA_15.out.cells; have HRS15 := hid ((show Blk _ w.heap.size [_, _, _, _, _] by repeat (with_reducible (first | exact HRS14.out | apply Blk.drew))).kp HK15.out (by omega)); have HKA15 := hid ((show Kp b w _ by repeat (with_reducible (first | exact HKA14.out | apply Kp.drew))).trans HK15.out); obtain ⟨⟨u4_0, u4_1, u4_2, u4_3, u4_4⟩, u4_5, u4_6, u4_7, u4_8, u4_9⟩ := blk5 HRS15.out; have HY15 : Hid (Kids w15 (fun g => w14.heap.size ≤ g) (.slice a15 l15 c15) y15.kids) := HKd15.out.weak (fun g hg _ => by (try simp at hg); omega))
    | (go_at_call 108; have HA16 := hid (HVA_15.out.kids); have HC16 : Hid (Kids _ (Fr W0.heap.size w1.heap.size) (.slice a15 l15 c15) y15.kids) := HY15.out.weak (fun g hg _ => ⟨Nat.le_trans (by omega) hg, by omega⟩); refine (djoined _ (Fr W0.heap.size w1.heap.size) 18 T y15 t12.text aA a15 lA cA l15 c15 (fun g hg => by (try simp at hg); exact ⟨by omega, by omega⟩) (by repeat (with_reducible (first | exact HA16.out | apply Kids.drew))) (by repeat (with_reducible (first | exact HC16.out | apply Kids.drew)))).mono ?_; rintro en w16 ⟨g16, rfl, HN16, HB16⟩; have ht16 := HB16.out.size; (try simp at ht16); have HVA_16 := hid ((show Vr _ w1.heap.size W0.heap.size T aA lA cA by repeat (with_reducible (first | exact HVA_15.out | apply Vr.drew))).past HB16.out); obtain ⟨⟨q5_0, q5_1, q5_2, q5_3, q5_4⟩, q5_5, q5_6, q5_7, q5_8, q5_9⟩ := blk5 HVA_16.out.cells; have HRS16 := hid ((show Blk _ w.heap.size [_, _, _, _, _] by repeat (with_reducible (first | exact HRS15.out | apply Blk.drew))).past HB16.out); have HKA16 := hid ((show Kp b w _ by repeat (with_reducible (first | exact HKA15.out | apply Kp.drew))).below HB16.out); obtain ⟨⟨u6_0, u6_1, u6_2, u6_3, u6_4⟩, u6_5, u6_6, u6_7, u6_8, u6_9⟩ := blk5 HRS16.out; have HR16 := hid ((show Dr _ b z ts15 e d by repeat (with_reducible (first | exact HR15.out | apply Dr.drew))).below HB16.out)))
   all_goals
    have HAC := hid HVA_16.out.cells
    obtain ⟨V, hV, HLV⟩ := lw_put (w := w) (lo := W0.heap.size) HAC.out HRS16.out (by omega) (by omega) (by omega) HR16.out (Sy.op2 t12.text T y15) (a := (some ⟨g16, 0, none⟩)) (l := 2) (c := 2) HN16.out HKA16.out 18 T.pos 0 ⟨t12.text.toArray⟩ rfl rfl rfl rfl
    have HVV := hid hV
    clear hV
    go_wp2_with fail
    rw [HVV.out]
    go_roundg m
    case measure => omega
    case rel => exact ⟨_, _, HLV, hid (by rw [← HE.out]; simp [Sy.sumsB, Sy.takesB, Sy.iteB_takes, Sy.bnd, HL12.out, hv_s_plus, H15.out]), hm15, hn15⟩
  | false =>
   go_wp2_with fail
   refine (dsees _ b z tr e d Sy.s_minus (by repeat (with_reducible (first | exact HR13.out | apply Dr.drew)))).mono ?_
   intro en w14 HD
   obtain ⟨rfl, HR14, HK14⟩ := HD.yes (a := t12.text == Sy.s_minus) (ts := tr) (by simp [Sy.seesB, Sy.bnd, HL12.out])
   clear HD
   have ht14 := HK14.out.size
   have HVA_14 := hid ((show Vr _ w1.heap.size W0.heap.size T aA lA cA by repeat (with_reducible (first | exact HVA_13.out | apply Vr.drew))).kp HK14.out (by omega) (by omega))
   have HRS14 := hid ((show Blk _ w.heap.size [_, _, _, _, _] by repeat (with_reducible (first | exact HRS13.out | apply Blk.drew))).kp HK14.out (by omega))
   have HKA14 := hid ((show Kp b w _ by repeat (with_reducible (first | exact HKA13.out | apply Kp.drew))).trans HK14.out)
   cases hv_s_minus : (t12.text == Sy.s_minus) with
   | true =>
    go_wp2_with fail
    have HTS12 : Hid (tr = t12 :: tr.tail) := look_some HL12.out (.inl (text_ne hv_s_minus (by decide)))
    have hlt12 : tr.tail.length < N := by simp only [List.length_tail]; omega
    obtain ⟨hf12_0, hf12_1, hf12_2, hf12_3⟩ := fld_tk (.int .i64 t12.kind) (.int .i64 t12.pos) (.string ⟨t12.text.toArray⟩) (.int .i64 t12.num)
    refine (dtake _ b z t12 tr.tail e d (by rw [← HTS12.out]; repeat (with_reducible (first | exact HR14.out | apply Dr.drew)))).mono ?_
    intro en w15 HD
    obtain ⟨rfl, HR15, HK15⟩ := HD.yes rfl
    dsimp only [tkV]
    clear HD
    have ht15 := HK15.out.size
    have HVA_15 := hid ((show Vr _ w1.heap.size W0.heap.size T aA lA cA by repeat (with_reducible (first | exact HVA_14.out | apply Vr.drew))).kp HK15.out (by omega) (by omega))
    have HRS15 := hid ((show Blk _ w.heap.size [_, _, _, _, _] by repeat (with_reducible (first | exact HRS14.out | apply Blk.drew))).kp HK15.out (by omega))
    have HKA15 := hid ((show Kp b w _ by repeat (with_reducible (first | exact HKA14.out | apply Kp.drew))).trans HK15.out)
    have HTX : Hid (t12.text = _) := eq_of_beq hv_s_minus
    have hlt : tr.tail.length < tr.length := by have h0 := congrArg List.length HTS12.out; simp only [List.length_cons] at h0; omega
    obtain ⟨⟨q1_0, q1_1, q1_2, q1_3, q1_4⟩, q1_5, q1_6, q1_7, q1_8, q1_9⟩ := blk5 HVA_15.out.cells
    obtain ⟨⟨u2_0, u2_1, u2_2, u2_3, u2_4⟩, u2_5, u2_6, u2_7, u2_8, u2_9⟩ := blk5 HRS15.out
    go_wp2_with fail
    rcases hx16 : Sy.mulB z N E tr.tail with f16 | ⟨y16, ts16⟩
    ·skip
     refine wp_region_held_drew (S := (fun w' => w'.cell? ⟨w1.heap.size, 0, none⟩ = some (.int .i64 T.kind) ∧ w'.cell? ⟨w1.heap.size, 1, none⟩ = some (.int .i64 T.pos) ∧ w'.cell? ⟨w1.heap.size, 2, none⟩ = some (.string ⟨T.name.toArray⟩) ∧ w'.cell? ⟨w1.heap.size, 3, none⟩ = some (.int .i64 T.num) ∧ w'.cell? ⟨w1.heap.size, 4, none⟩ = some (.slice aA lA cA))) (by kernel_rfl) (by first | trivial | (dsimp only; go_keep)) (fun hHeld => ?_)
     refine wpAnyH_take (i := 0) (v := ?vv0_3) rfl (by kernel_rfl) (by kernel_rfl) (by kernel_rfl) (fun _ _ _ h => h) (Or.inl ⟨by rfl, ?yy0_3⟩) (by assumption) ?rr0_3
     case yy0_3 => (intro w hSw; (try dsimp only at hSw); go_simp; (try with_reducible rfl))
     try simp only [Act.put, List.setIfInBounds_toArray, List.set_cons_zero, List.set_cons_succ]
     refine wpAnyH_take (i := 1) (v := ?vv1_3) rfl (by kernel_rfl) (by kernel_rfl) (by kernel_rfl) (fun _ _ _ h => h) (Or.inl ⟨by rfl, ?yy1_3⟩) (by assumption) ?rr1_3
     case yy1_3 => (intro w hSw; (try dsimp only at hSw); go_simp; (try with_reducible rfl))
     try simp only [Act.put, List.setIfInBounds_toArray, List.set_cons_zero, List.set_cons_succ]
     refine wpAnyH_take (i := 2) (v := ?vv2_3) rfl (by kernel_rfl) (by kernel_rfl) (by kernel_rfl) (fun _ _ _ h => h) (Or.inl ⟨by rfl, ?yy2_3⟩) (by assumption) ?rr2_3
     case yy2_3 => (intro w hSw; (try dsimp only at hSw); go_simp; (try with_reducible rfl))
     try simp only [Act.put, List.setIfInBounds_toArray, List.set_cons_zero, List.set_cons_succ]
     refine wpAnyH_ready (rs := [3]) (by kernel_rfl) (by simp) (AllReadyH.cons rfl (fun K hK => ?_) AllReadyH.nil)
     go_simp
     refine (hC _ b tr.tail (by repeat (with_reducible (first | exact HR15.out | apply Dr.drew))) hlt12).mono ?_
     intro en w16 HD
     obtain ⟨rfl, HK16⟩ := HD.no hx16
     have HKE := hid ((show Kp b w _ by repeat (with_reducible (first | exact HKA15.out | apply Kp.drew))).trans HK16.out)
     exact ⟨rfl, DRes.err (by rw [← HE.out]; simp [Sy.sumsB, Sy.takesB, Sy.iteB_takes, Sy.bnd, HL12.out, hv_s_plus, hv_s_minus, hx16]) HKE.out⟩
    have H16 := hid hx16
    have hn16 : ts16.length < N := Nat.lt_of_le_of_lt (le_mul (fun ts h => hE.le _ ts h) _ (Nat.le_refl _) _ _ hx16) hlt12
    have hm16 : ts16.length < m := by have h1 := (le_mul (fun ts h => hE.le _ ts h) _ (Nat.le_refl _) _ _ hx16); have h2 := HM.out; omega
    clear hx16
    go_region_with (first
     | (go_at_call 156; refine (hC _ b tr.tail (by repeat (with_reducible (first | exact HR15.out | apply Dr.drew))) hlt12).mono ?_; intro en w16 HD; obtain ⟨a16, l16, c16, rfl, HKd16, HR16, HK16⟩ := HD.yes H16.out; have ht16 := HK16.out.size; (try simp at ht16); have HVA_16 := hid ((show Vr _ w1.heap.size W0.heap.size T aA lA cA by repeat (with_reducible (first | exact HVA_15.out | apply Vr.drew))).kp HK16.out (by omega) (by omega)); obtain ⟨⟨q3_0, q3_1, q3_2, q3_3, q3_4⟩, q3_5, q3_6, q3_7, q3_8, q3_9⟩ := blk5 HVA_16.out.cells; have HRS16 := hid ((show Blk _ w.heap.size [_, _, _, _, _] by repeat (with_reducible (first | exact HRS15.out | apply Blk.drew))).kp HK16.out (by omega)); have HKA16 := hid ((show Kp b w _ by repeat (with_reducible (first | exact HKA15.out | apply Kp.drew))).trans HK16.out); obtain ⟨⟨u4_0, u4_1, u4_2, u4_3, u4_4⟩, u4_5, u4_6, u4_7, u4_8, u4_9⟩ := blk5 HRS16.out; have HY16 : Hid (Kids w16 (fun g => w15.heap.size ≤ g) (.slice a16 l16 c16) y16.kids) := HKd16.out.weak (fun g hg _ => by (try simp at hg); omega))
     | (go_at_call 108; have HA17 := hid (HVA_16.out.kids); have HC17 : Hid (Kids _ (Fr W0.heap.size w1.heap.size) (.slice a16 l16 c16) y16.kids) := HY16.out.weak (fun g hg _ => ⟨Nat.le_trans (by omega) hg, by omega⟩); refine (djoined _ (Fr W0.heap.size w1.heap.size) 18 T y16 t12.text aA a16 lA cA l16 c16 (fun g hg => by (try simp at hg); exact ⟨by omega, by omega⟩) (by repeat (with_reducible (first | exact HA17.out | apply Kids.drew))) (by repeat (with_reducible (first | exact HC17.out | apply Kids.drew)))).mono ?_; rintro en w17 ⟨g17, rfl, HN17, HB17⟩; have ht17 := HB17.out.size; (try simp at ht17); have HVA_17 := hid ((show Vr _ w1.heap.size W0.heap.size T aA lA cA by repeat (with_reducible (first | exact HVA_16.out | apply Vr.drew))).past HB17.out); obtain ⟨⟨q5_0, q5_1, q5_2, q5_3, q5_4⟩, q5_5, q5_6, q5_7, q5_8, q5_9⟩ := blk5 HVA_17.out.cells; have HRS17 := hid ((show Blk _ w.heap.size [_, _, _, _, _] by repeat (with_reducible (first | exact HRS16.out | apply Blk.drew))).past HB17.out); have HKA17 := hid ((show Kp b w _ by repeat (with_reducible (first | exact HKA16.out | apply Kp.drew))).below HB17.out); obtain ⟨⟨u6_0, u6_1, u6_2, u6_3, u6_4⟩, u6_5, u6_6, u6_7, u6_8, u6_9⟩ := blk5 HRS17.out; have HR17 := hid ((show Dr _ b z ts16 e d by repeat (with_reducible (first | exact HR16.out | apply Dr.drew))).below HB17.out)))
    all_goals
     have HAC := hid HVA_17.out.cells
     obtain ⟨V, hV, HLV⟩ := lw_put (w := w) (lo := W0.heap.size) HAC.out HRS17.out (by omega) (by omega) (by omega) HR17.out (Sy.op2 t12.text T y16) (a := (some ⟨g17, 0, none⟩)) (l := 2) (c := 2) HN17.out HKA17.out 18 T.pos 0 ⟨t12.text.toArray⟩ rfl rfl rfl rfl
     have HVV := hid hV
     clear hV
     go_wp2_with fail
     rw [HVV.out]
     go_roundg m
     case measure => omega
     case rel => exact ⟨_, _, HLV, hid (by rw [← HE.out]; simp [Sy.sumsB, Sy.takesB, Sy.iteB_takes, Sy.bnd, HL12.out, hv_s_plus, hv_s_minus, H16.out]), hm16, hn16⟩
   | false =>
    obtain ⟨⟨q1_0, q1_1, q1_2, q1_3, q1_4⟩, q1_5, q1_6, q1_7, q1_8, q1_9⟩ := blk5 HVA_14.out.cells
    obtain ⟨⟨u2_0, u2_1, u2_2, u2_3, u2_4⟩, u2_5, u2_6, u2_7, u2_8, u2_9⟩ := blk5 HRS14.out
    go_wp2_with fail
    refine bodyPost_ret (v := .agg #[.int .i64 T.kind, .int .i64 T.pos, .string ⟨T.name.toArray⟩, .int .i64 T.num, .slice aA lA cA]) (by simp [results, Tryz.results149, go_sem, u2_0, u2_1, u2_2, u2_3, u2_4]) rfl ?_
    exact dres_fin (lo := W0.heap.size) T tr (HVA_14.out.kids.free (by omega)) HR14.out HKA14.out (by rw [← HE.out]; simp [Sy.sumsB, Sy.takesB, Sy.iteB_takes, Sy.bnd, HL12.out, hv_s_plus, hv_s_minus]) (by omega) (by omega) (by omega) _ _ _ _ rfl rfl rfl rfl _ _ _ _ _
end Go.Proofs.YtoajnlhegallpaaGreatDoor
