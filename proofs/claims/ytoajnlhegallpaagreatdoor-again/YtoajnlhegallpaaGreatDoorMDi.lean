/-
  What the program's rules do: choice, cases, returnClause.
-/
import Derived.Test.YtoajnlhegallpaaGreatDoorMDh
set_option linter.unusedVariables false
set_option linter.unusedSimpArgs false
set_option maxRecDepth 100000
set_option maxHeartbeats 4000000
namespace Go.Proofs.YtoajnlhegallpaaGreatDoor
open Go.RowKit

def ROK1 (fn N e d : Nat) (z : Sy.Env) (F : List Lx.Tk → Sy.R Sy.Tr) : Prop := ∀ (w : World) (b : Nat) (t0 : Lx.Tk) (tl : List Lx.Tk), Dr w b z (t0 :: tl) e d → (t0 :: tl).length < N → Calls Tryz.prog fn #[.pointer (some ⟨b, 0, none⟩)] w fun en w' => DRes w b z (F (t0 :: tl)) e d en w'

theorem dchoice (N e d : Nat) (z : Sy.Env) (E : List Lx.Tk → Sy.R Sy.Tr) (hE : EOK N e d z E) : ROK1 104 N e d z (Sy.ifB z E) := by
 intro w b t0 tl h hn
 have H := hid h
 have hbR : b < w.heap.size := h.lt
 clear h
 go_enter Tryz.func104, Tryz.ntmps104
 go_wp2_with fail
 obtain ⟨W0, hW0, HI⟩ := jn1 H.out 24
 rw [hW0]
 clear hW0
 have hz0 := HI.out.size
 have hlt0 : tl.length < N := by simp only [List.length_cons] at hn; omega
 obtain ⟨hf0, hf1, hf2, hf3⟩ := fld_tk (.int .i64 t0.kind) (.int .i64 t0.pos) (.string ⟨t0.text.toArray⟩) (.int .i64 t0.num)
 refine (dtake _ b z t0 tl e d (by repeat (with_reducible (first | exact HI.out.rd | apply Dr.drew)))).mono ?_
 intro en w1 HD
 obtain ⟨rfl, HR1, HK1⟩ := HD.yes rfl
 dsimp only [tkV]
 clear HD
 have ht1 := HK1.out.size
 have HRS1 := hid ((show Blk _ w.heap.size [_, _, _, _, _] by repeat (with_reducible (first | exact HI.out.one | apply Blk.drew))).kp HK1.out (by omega))
 have HKA1 := hid ((show Kp b w _ by repeat (with_reducible (first | exact HI.out.kp | apply Kp.drew))).trans HK1.out)
 go_wp2_with fail
 refine (hE.calls _ b tl (by repeat (with_reducible (first | exact HR1.out | apply Dr.drew))) hlt0).mono ?_
 intro en w2 HD
 rcases hx2 : E tl with f2 | ⟨y2, ts2⟩
 ·obtain ⟨rfl, HK2⟩ := HD.no hx2
  have HKE := hid ((show Kp b w _ by repeat (with_reducible (first | exact HKA1.out | apply Kp.drew))).trans HK2.out)
  go_wp2_with fail
  exact ⟨rfl, DRes.err (by simp [Sy.ifB, Sy.takeB, Sy.lookB, Sy.iteB_takes, Sy.bnd, hx2]) HKE.out⟩
 have H2 := hid hx2
 have hn2 : ts2.length < N := Nat.lt_of_le_of_lt (hE.le _ _ (Nat.le_refl _) _ _ hx2) hlt0
 obtain ⟨a2, l2, c2, rfl, HKd2, HR2, HK2⟩ := HD.yes hx2
 clear hx2 HD
 obtain ⟨W2, hW2, HV2, HRd2, HKp2, hs2, ht2⟩ := jvar_new HKd2.out HR2.out HK2.out 24
 have HRS2 := hid ((show Blk _ w.heap.size [_, _, _, _, _] by repeat (with_reducible (first | exact HRS1.out | apply Blk.drew))).kp HKp2.out (by omega))
 have HKA2 := hid ((show Kp b w _ by repeat (with_reducible (first | exact HKA1.out | apply Kp.drew))).trans HKp2.out)
 have hne2 : ¬ w2.heap.size = w.heap.size := by omega
 have hno2 : ¬ w.heap.size = w2.heap.size := by omega
 go_wp2_with fail
 try rw [hW2]
 clear hW2
 refine (dneed _ b z ts2 e d Sy.w_then (by decide) (by repeat (with_reducible (first | exact HRd2.out | apply Dr.drew)))).mono ?_
 intro en w3 HD
 rcases hx3 : Sy.needB z Sy.w_then ts2 with f3 | ⟨u3, ts3⟩
 ·obtain ⟨rfl, HK3⟩ := HD.no hx3
  have HKE := hid ((show Kp b w _ by repeat (with_reducible (first | exact HKA2.out | apply Kp.drew))).trans HK3.out)
  go_wp2_with fail
  exact ⟨rfl, DRes.err (by simp [Sy.ifB, Sy.takeB, Sy.lookB, Sy.iteB_takes, Sy.bnd, H2.out, hx3]) HKE.out⟩
 have H3 := hid hx3
 have hn3 : ts3.length < N := Nat.lt_of_le_of_lt (le_need (Nat.le_refl _) _ _ hx3) hn2
 obtain ⟨rfl, HR3, HK3⟩ := HD.yes hx3
 clear hx3 HD
 have ht3 := HK3.out.size
 have HV2_3 := hid ((show Vr _ w2.heap.size w1.heap.size y2 a2 l2 c2 by repeat (with_reducible (first | exact HV2.out | apply Vr.drew))).kp HK3.out (by omega) (by omega))
 have HRS3 := hid ((show Blk _ w.heap.size [_, _, _, _, _] by repeat (with_reducible (first | exact HRS2.out | apply Blk.drew))).kp HK3.out (by omega))
 have HKA3 := hid ((show Kp b w _ by repeat (with_reducible (first | exact HKA2.out | apply Kp.drew))).trans HK3.out)
 go_wp2_with fail
 refine (hE.calls _ b ts3 (by repeat (with_reducible (first | exact HR3.out | apply Dr.drew))) hn3).mono ?_
 intro en w4 HD
 rcases hx4 : E ts3 with f4 | ⟨y4, ts4⟩
 ·obtain ⟨rfl, HK4⟩ := HD.no hx4
  have HKE := hid ((show Kp b w _ by repeat (with_reducible (first | exact HKA3.out | apply Kp.drew))).trans HK4.out)
  go_wp2_with fail
  exact ⟨rfl, DRes.err (by simp [Sy.ifB, Sy.takeB, Sy.lookB, Sy.iteB_takes, Sy.bnd, H2.out, H3.out, hx4]) HKE.out⟩
 have H4 := hid hx4
 have hn4 : ts4.length < N := Nat.lt_of_le_of_lt (hE.le _ _ (Nat.le_refl _) _ _ hx4) hn3
 obtain ⟨a4, l4, c4, rfl, HKd4, HR4, HK4⟩ := HD.yes hx4
 clear hx4 HD
 obtain ⟨W4, hW4, HV4, HRd4, HKp4, hs4, ht4⟩ := jvar_new HKd4.out HR4.out HK4.out 24
 have HV2_4 := hid ((show Vr _ w2.heap.size w1.heap.size y2 a2 l2 c2 by repeat (with_reducible (first | exact HV2_3.out | apply Vr.drew))).kp HKp4.out (by omega) (by omega))
 have HRS4 := hid ((show Blk _ w.heap.size [_, _, _, _, _] by repeat (with_reducible (first | exact HRS3.out | apply Blk.drew))).kp HKp4.out (by omega))
 have HKA4 := hid ((show Kp b w _ by repeat (with_reducible (first | exact HKA3.out | apply Kp.drew))).trans HKp4.out)
 have hne4 : ¬ w4.heap.size = w.heap.size := by omega
 have hno4 : ¬ w.heap.size = w4.heap.size := by omega
 go_wp2_with fail
 try rw [hW4]
 clear hW4
 refine (dneed _ b z ts4 e d Sy.w_else (by decide) (by repeat (with_reducible (first | exact HRd4.out | apply Dr.drew)))).mono ?_
 intro en w5 HD
 rcases hx5 : Sy.needB z Sy.w_else ts4 with f5 | ⟨u5, ts5⟩
 ·obtain ⟨rfl, HK5⟩ := HD.no hx5
  have HKE := hid ((show Kp b w _ by repeat (with_reducible (first | exact HKA4.out | apply Kp.drew))).trans HK5.out)
  go_wp2_with fail
  exact ⟨rfl, DRes.err (by simp [Sy.ifB, Sy.takeB, Sy.lookB, Sy.iteB_takes, Sy.bnd, H2.out, H3.out, H4.out, hx5]) HKE.out⟩
 have H5 := hid hx5
 have hn5 : ts5.length < N := Nat.lt_of_le_of_lt (le_need (Nat.le_refl _) _ _ hx5) hn4
 obtain ⟨rfl, HR5, HK5⟩ := HD.yes hx5
 clear hx5 HD
 have ht5 := HK5.out.size
 have HV2_5 := hid ((show Vr _ w2.heap.size w1.heap.size y2 a2 l2 c2 by repeat (with_reducible (first | exact HV2_4.out | apply Vr.drew))).kp HK5.out (by omega) (by omega))
 have HV4_5 := hid ((show Vr _ w4.heap.size w3.heap.size y4 a4 l4 c4 by repeat (with_reducible (first | exact HV4.out | apply Vr.drew))).kp HK5.out (by omega) (by omega))
 have HRS5 := hid ((show Blk _ w.heap.size [_, _, _, _, _] by repeat (with_reducible (first | exact HRS4.out | apply Blk.drew))).kp HK5.out (by omega))
 have HKA5 := hid ((show Kp b w _ by repeat (with_reducible (first | exact HKA4.out | apply Kp.drew))).trans HK5.out)
 obtain ⟨⟨q1_0, q1_1, q1_2, q1_3, q1_4⟩, q1_5, q1_6, q1_7, q1_8, q1_9⟩ := blk5 HV2_5.out.cells
 obtain ⟨⟨q2_0, q2_1, q2_2, q2_3, q2_4⟩, q2_5, q2_6, q2_7, q2_8, q2_9⟩ := blk5 HV4_5.out.cells
 obtain ⟨⟨u3_0, u3_1, u3_2, u3_3, u3_4⟩, u3_5, u3_6, u3_7, u3_8, u3_9⟩ := blk5 HRS5.out
 go_wp2_with fail
 rcases hx6 : E ts5 with f6 | ⟨y6, ts6⟩
 ·skip
  refine wp_region_held_drew (S := (fun w' => w'.cell? ⟨w2.heap.size, 0, none⟩ = some (.int .i64 y2.kind) ∧ w'.cell? ⟨w2.heap.size, 1, none⟩ = some (.int .i64 y2.pos) ∧ w'.cell? ⟨w2.heap.size, 2, none⟩ = some (.string ⟨y2.name.toArray⟩) ∧ w'.cell? ⟨w2.heap.size, 3, none⟩ = some (.int .i64 y2.num) ∧ w'.cell? ⟨w2.heap.size, 4, none⟩ = some (.slice a2 l2 c2) ∧ w'.cell? ⟨w4.heap.size, 0, none⟩ = some (.int .i64 y4.kind) ∧ w'.cell? ⟨w4.heap.size, 1, none⟩ = some (.int .i64 y4.pos) ∧ w'.cell? ⟨w4.heap.size, 2, none⟩ = some (.string ⟨y4.name.toArray⟩) ∧ w'.cell? ⟨w4.heap.size, 3, none⟩ = some (.int .i64 y4.num) ∧ w'.cell? ⟨w4.heap.size, 4, none⟩ = some (.slice a4 l4 c4))) (by kernel_rfl) (by first | trivial | (dsimp only; go_keep)) (fun hHeld => ?_)
  refine wpAnyH_take (i := 0) (v := ?vv0_1) rfl (by kernel_rfl) (by kernel_rfl) (by kernel_rfl) (fun _ _ _ h => h) (Or.inl ⟨by rfl, ?yy0_1⟩) (by assumption) ?rr0_1
  case yy0_1 => (intro w hSw; (try dsimp only at hSw); go_simp; (try with_reducible rfl))
  try simp only [Act.put, List.setIfInBounds_toArray, List.set_cons_zero, List.set_cons_succ]
  refine wpAnyH_take (i := 1) (v := ?vv1_1) rfl (by kernel_rfl) (by kernel_rfl) (by kernel_rfl) (fun _ _ _ h => h) (Or.inl ⟨by rfl, ?yy1_1⟩) (by assumption) ?rr1_1
  case yy1_1 => (intro w hSw; (try dsimp only at hSw); go_simp; (try with_reducible rfl))
  try simp only [Act.put, List.setIfInBounds_toArray, List.set_cons_zero, List.set_cons_succ]
  refine wpAnyH_take (i := 2) (v := ?vv2_1) rfl (by kernel_rfl) (by kernel_rfl) (by kernel_rfl) (fun _ _ _ h => h) (Or.inl ⟨by rfl, ?yy2_1⟩) (by assumption) ?rr2_1
  case yy2_1 => (intro w hSw; (try dsimp only at hSw); go_simp; (try with_reducible rfl))
  try simp only [Act.put, List.setIfInBounds_toArray, List.set_cons_zero, List.set_cons_succ]
  refine wpAnyH_take (i := 3) (v := ?vv3_1) rfl (by kernel_rfl) (by kernel_rfl) (by kernel_rfl) (fun _ _ _ h => h) (Or.inl ⟨by rfl, ?yy3_1⟩) (by assumption) ?rr3_1
  case yy3_1 => (intro w hSw; (try dsimp only at hSw); go_simp; (try with_reducible rfl))
  try simp only [Act.put, List.setIfInBounds_toArray, List.set_cons_zero, List.set_cons_succ]
  refine wpAnyH_ready (rs := [4]) (by kernel_rfl) (by simp) (AllReadyH.cons rfl (fun K hK => ?_) AllReadyH.nil)
  go_simp
  refine (hE.calls _ b ts5 (by repeat (with_reducible (first | exact HR5.out | apply Dr.drew))) hn5).mono ?_
  intro en w6 HD
  obtain ⟨rfl, HK6⟩ := HD.no hx6
  have HKE := hid ((show Kp b w _ by repeat (with_reducible (first | exact HKA5.out | apply Kp.drew))).trans HK6.out)
  exact ⟨rfl, DRes.err (by simp [Sy.ifB, Sy.takeB, Sy.lookB, Sy.iteB_takes, Sy.bnd, H2.out, H3.out, H4.out, H5.out, hx6]) HKE.out⟩
 have H6 := hid hx6
 clear hx6
 have hnA : ¬ w5.heap.size = w.heap.size := by omega
 go_region_held3 (fun w' => w'.cell? ⟨w2.heap.size, 0, none⟩ = some (.int .i64 y2.kind) ∧ w'.cell? ⟨w2.heap.size, 1, none⟩ = some (.int .i64 y2.pos) ∧ w'.cell? ⟨w2.heap.size, 2, none⟩ = some (.string ⟨y2.name.toArray⟩) ∧ w'.cell? ⟨w2.heap.size, 3, none⟩ = some (.int .i64 y2.num) ∧ w'.cell? ⟨w2.heap.size, 4, none⟩ = some (.slice a2 l2 c2) ∧ w'.cell? ⟨w4.heap.size, 0, none⟩ = some (.int .i64 y4.kind) ∧ w'.cell? ⟨w4.heap.size, 1, none⟩ = some (.int .i64 y4.pos) ∧ w'.cell? ⟨w4.heap.size, 2, none⟩ = some (.string ⟨y4.name.toArray⟩) ∧ w'.cell? ⟨w4.heap.size, 3, none⟩ = some (.int .i64 y4.num) ∧ w'.cell? ⟨w4.heap.size, 4, none⟩ = some (.slice a4 l4 c4)) (go_keep) (first
  | (go_at_call 34; refine (hE.calls _ b ts5 (by repeat (with_reducible (first | exact HR5.out | apply Dr.drew))) hn5).mono ?_; intro en w6 HD; obtain ⟨a6, l6, c6, rfl, HKd6, HR6, HK6⟩ := HD.yes H6.out; have ht6 := HK6.out.size; (try simp at ht6); have HV2_6 := hid ((show Vr _ w2.heap.size w1.heap.size y2 a2 l2 c2 by repeat (with_reducible (first | exact HV2_5.out | apply Vr.drew))).kp HK6.out (by omega) (by omega)); obtain ⟨⟨q4_0, q4_1, q4_2, q4_3, q4_4⟩, q4_5, q4_6, q4_7, q4_8, q4_9⟩ := blk5 HV2_6.out.cells; have HV4_6 := hid ((show Vr _ w4.heap.size w3.heap.size y4 a4 l4 c4 by repeat (with_reducible (first | exact HV4_5.out | apply Vr.drew))).kp HK6.out (by omega) (by omega)); obtain ⟨⟨q5_0, q5_1, q5_2, q5_3, q5_4⟩, q5_5, q5_6, q5_7, q5_8, q5_9⟩ := blk5 HV4_6.out.cells; have HRS6 := hid ((show Blk _ w.heap.size [_, _, _, _, _] by repeat (with_reducible (first | exact HRS5.out | apply Blk.drew))).kp HK6.out (by omega)); have HKA6 := hid ((show Kp b w _ by repeat (with_reducible (first | exact HKA5.out | apply Kp.drew))).trans HK6.out); obtain ⟨⟨u6_0, u6_1, u6_2, u6_3, u6_4⟩, u6_5, u6_6, u6_7, u6_8, u6_9⟩ := blk5 HRS6.out; have hlw6 : w.heap.size < w6.heap.size := Blk.lt HRS6.out; have hlv2_6 : w2.heap.size < w6.heap.size := Blk.lt HV2_6.out.cells; have hlv4_6 : w4.heap.size < w6.heap.size := Blk.lt HV4_6.out.cells; have HY6 : Hid (Kids w6 (fun g => w5.heap.size ≤ g) (.slice a6 l6 c6) y6.kids) := HKd6.out.weak (fun g hg _ => by (try simp at hg); omega)))
 all_goals go_wp2_with fail
 obtain ⟨⟨u7_0, u7_1, u7_2, u7_3, u7_4⟩, u7_5, u7_6, u7_7, u7_8, u7_9⟩ := blk5 HRS6.out
 have hlw : w.heap.size < w6.heap.size := Blk.lt HRS6.out
 refine bodyPost_ret (v := .agg #[.int .i64 11, .int .i64 t0.pos, .string ⟨([] : List UInt8).toArray⟩, .int .i64 0, .slice (some ⟨w6.heap.size, 0, none⟩) 3 3]) (by simp [results, Tryz.results104, go_sem, u7_0, u7_1, u7_2, u7_3, u7_4, hlw]) rfl ?_
 exact dres_finl (lo := W0.heap.size) (Sy.nd 11 t0.pos [y2, y4, y6]) ts6 [(y2, .slice a2 l2 c2), (y4, .slice a4 l4 c4), (y6, .slice a6 l6 c6)] (by simp) (by intro p hp; simp only [List.mem_cons, List.not_mem_nil, or_false] at hp; rcases hp with rfl | rfl | rfl <;> first | exact (HV2_6.out.kids.free (by omega)) | exact (HV4_6.out.kids.free (by omega)) | exact (HY6.out.weak (fun g hg _ => Nat.le_trans (by omega) hg))) rfl HR6.out HKA6.out (by simp [Sy.ifB, Sy.takeB, Sy.lookB, Sy.iteB_takes, Sy.bnd, H2.out, H3.out, H4.out, H5.out, H6.out]) (by omega) (by omega) (by omega) (by omega) _ rfl 3 rfl _ _ _ _ _ rfl rfl rfl rfl _ _ _ _ _ _ rfl

theorem dreturnClause (N e d : Nat) (z : Sy.Env) (E : List Lx.Tk → Sy.R Sy.Tr) (hE : EOK N e d z E) : ROK 132 N e d z (Sy.retB z E) := by
 intro w b ts h hn
 have H := hid h
 have hbR : b < w.heap.size := h.lt
 clear h
 go_enter Tryz.func132, Tryz.ntmps132
 go_wp2_with fail
 obtain ⟨W0, hW0, HI⟩ := jn1 H.out 24
 rw [hW0]
 clear hW0
 have hz0 := HI.out.size
 rcases hl1 : Sy.lookB z ts with f1 | ⟨t1, us1⟩
 ·refine (dlook _ b z ts e d (by repeat (with_reducible (first | exact HI.out.rd | apply Dr.drew)))).mono ?_
  intro en w1 HD
  obtain ⟨rfl, HK1⟩ := HD.no (f := f1) (by simp [Sy.bnd, hl1])
  have HKE := hid ((show Kp b w _ by repeat (with_reducible (first | exact HI.out.kp | apply Kp.drew))).trans HK1.out)
  go_wp2_with fail
  exact ⟨rfl, DRes.err (by simp [Sy.retB, Sy.iteB_takes, Sy.bnd, hl1]) HKE.out⟩
 have HL1 : Hid (Sy.lookB z ts = .ok (t1, ts)) := by obtain ⟨h1, _⟩ := look_ok hl1; rw [Hid, hl1, h1]
 clear hl1
 obtain ⟨hf1_0, hf1_1, hf1_2, hf1_3⟩ := fld_tk (.int .i64 t1.kind) (.int .i64 t1.pos) (.string ⟨t1.text.toArray⟩) (.int .i64 t1.num)
 refine (dlook _ b z ts e d (by repeat (with_reducible (first | exact HI.out.rd | apply Dr.drew)))).mono ?_
 intro en w2 HD
 obtain ⟨rfl, HR2, HK2⟩ := HD.yes HL1.out
 dsimp only [tkV]
 clear HD
 have ht2 := HK2.out.size
 have HRS2 := hid ((show Blk _ w.heap.size [_, _, _, _, _] by repeat (with_reducible (first | exact HI.out.one | apply Blk.drew))).kp HK2.out (by omega))
 have HKA2 := hid ((show Kp b w _ by repeat (with_reducible (first | exact HI.out.kp | apply Kp.drew))).trans HK2.out)
 go_wp2_with fail
 refine (dneed _ b z ts e d Sy.w_return (by decide) (by repeat (with_reducible (first | exact HR2.out | apply Dr.drew)))).mono ?_
 intro en w3 HD
 rcases hx3 : Sy.needB z Sy.w_return ts with f3 | ⟨u3, ts3⟩
 ·obtain ⟨rfl, HK3⟩ := HD.no hx3
  have HKE := hid ((show Kp b w _ by repeat (with_reducible (first | exact HKA2.out | apply Kp.drew))).trans HK3.out)
  go_wp2_with fail
  exact ⟨rfl, DRes.err (by simp [Sy.retB, Sy.iteB_takes, Sy.bnd, HL1.out, hx3]) HKE.out⟩
 have H3 := hid hx3
 have hn3 : ts3.length < N := Nat.lt_of_le_of_lt (le_need (Nat.le_refl _) _ _ hx3) hn
 obtain ⟨rfl, HR3, HK3⟩ := HD.yes hx3
 clear hx3 HD
 have ht3 := HK3.out.size
 have HRS3 := hid ((show Blk _ w.heap.size [_, _, _, _, _] by repeat (with_reducible (first | exact HRS2.out | apply Blk.drew))).kp HK3.out (by omega))
 have HKA3 := hid ((show Kp b w _ by repeat (with_reducible (first | exact HKA2.out | apply Kp.drew))).trans HK3.out)
 go_wp2_with fail
 refine (dname _ b z ts3 e d (by repeat (with_reducible (first | exact HR3.out | apply Dr.drew)))).mono ?_
 intro en w4 HD
 rcases hx4 : Sy.kindB z 2 ts3 with f4 | ⟨t4, ts4⟩
 ·obtain ⟨rfl, HK4⟩ := HD.no hx4
  have HKE := hid ((show Kp b w _ by repeat (with_reducible (first | exact HKA3.out | apply Kp.drew))).trans HK4.out)
  go_wp2_with fail
  exact ⟨rfl, DRes.err (by simp [Sy.retB, Sy.iteB_takes, Sy.bnd, HL1.out, H3.out, hx4]) HKE.out⟩
 have H4 := hid hx4
 have hn4 : ts4.length < N := Nat.lt_of_le_of_lt (le_kind (Nat.le_refl _) _ _ hx4) hn3
 obtain ⟨rfl, HR4, HK4⟩ := HD.yes hx4
 dsimp only [tkV]
 clear hx4 HD
 have ht4 := HK4.out.size
 have HRS4 := hid ((show Blk _ w.heap.size [_, _, _, _, _] by repeat (with_reducible (first | exact HRS3.out | apply Blk.drew))).kp HK4.out (by omega))
 have HKA4 := hid ((show Kp b w _ by repeat (with_reducible (first | exact HKA3.out | apply Kp.drew))).trans HK4.out)
 obtain ⟨hf4_0, hf4_1, hf4_2, hf4_3⟩ := fld_tk (.int .i64 t4.kind) (.int .i64 t4.pos) (.string ⟨t4.text.toArray⟩) (.int .i64 t4.num)
 go_wp2_with fail
 refine (dneed _ b z ts4 e d Sy.s_to (by decide) (by repeat (with_reducible (first | exact HR4.out | apply Dr.drew)))).mono ?_
 intro en w5 HD
 rcases hx5 : Sy.needB z Sy.s_to ts4 with f5 | ⟨u5, ts5⟩
 ·obtain ⟨rfl, HK5⟩ := HD.no hx5
  have HKE := hid ((show Kp b w _ by repeat (with_reducible (first | exact HKA4.out | apply Kp.drew))).trans HK5.out)
  go_wp2_with fail
  exact ⟨rfl, DRes.err (by simp [Sy.retB, Sy.iteB_takes, Sy.bnd, HL1.out, H3.out, H4.out, hx5]) HKE.out⟩
 have H5 := hid hx5
 have hn5 : ts5.length < N := Nat.lt_of_le_of_lt (le_need (Nat.le_refl _) _ _ hx5) hn4
 obtain ⟨rfl, HR5, HK5⟩ := HD.yes hx5
 clear hx5 HD
 have ht5 := HK5.out.size
 have HRS5 := hid ((show Blk _ w.heap.size [_, _, _, _, _] by repeat (with_reducible (first | exact HRS4.out | apply Blk.drew))).kp HK5.out (by omega))
 have HKA5 := hid ((show Kp b w _ by repeat (with_reducible (first | exact HKA4.out | apply Kp.drew))).trans HK5.out)
 go_wp2_with fail
 refine (hE.calls _ b ts5 (by repeat (with_reducible (first | exact HR5.out | apply Dr.drew))) hn5).mono ?_
 intro en w6 HD
 rcases hx6 : E ts5 with f6 | ⟨y6, ts6⟩
 ·obtain ⟨rfl, HK6⟩ := HD.no hx6
  have HKE := hid ((show Kp b w _ by repeat (with_reducible (first | exact HKA5.out | apply Kp.drew))).trans HK6.out)
  go_wp2_with fail
  exact ⟨rfl, DRes.err (by simp [Sy.retB, Sy.iteB_takes, Sy.bnd, HL1.out, H3.out, H4.out, H5.out, hx6]) HKE.out⟩
 have H6 := hid hx6
 have hn6 : ts6.length < N := Nat.lt_of_le_of_lt (hE.le _ _ (Nat.le_refl _) _ _ hx6) hn5
 obtain ⟨a6, l6, c6, rfl, HKd6, HR6, HK6⟩ := HD.yes hx6
 clear hx6 HD
 have ht6 := HK6.out.size
 have HRS6 := hid ((show Blk _ w.heap.size [_, _, _, _, _] by repeat (with_reducible (first | exact HRS5.out | apply Blk.drew))).kp HK6.out (by omega))
 have HKA6 := hid ((show Kp b w _ by repeat (with_reducible (first | exact HKA5.out | apply Kp.drew))).trans HK6.out)
 obtain ⟨⟨u1_0, u1_1, u1_2, u1_3, u1_4⟩, u1_5, u1_6, u1_7, u1_8, u1_9⟩ := blk5 HRS6.out
 have hlw : w.heap.size < w6.heap.size := Blk.lt HRS6.out
 go_wp2_with fail
 refine bodyPost_ret (v := .agg #[.int .i64 21, .int .i64 t1.pos, .string ⟨t4.text.toArray⟩, .int .i64 0, .slice (some ⟨w6.heap.size, 0, none⟩) 1 1]) (by simp [results, Tryz.results132, go_sem, u1_0, u1_1, u1_2, u1_3, u1_4, hlw]) rfl ?_
 exact dres_finl (lo := W0.heap.size) (Sy.nm 21 t1.pos t4.text [y6]) ts6 [(y6, .slice a6 l6 c6)] (by simp) (by intro p hp; simp only [List.mem_cons, List.not_mem_nil, or_false] at hp; rcases hp with rfl <;> first | exact (HKd6.out.weak (fun g hg _ => Nat.le_trans (by omega) hg))) rfl HR6.out HKA6.out (by simp [Sy.retB, Sy.iteB_takes, Sy.bnd, HL1.out, H3.out, H4.out, H5.out, H6.out]) (by omega) (by omega) (by omega) (by omega) _ rfl 1 rfl _ _ _ _ _ rfl rfl rfl rfl _ _ _ _ _ _ rfl

theorem dcases (N e d : Nat) (z : Sy.Env) (E : List Lx.Tk → Sy.R Sy.Tr) (hE : EOK N e d z E) : ROK1 105 N e d z (Sy.casesB z E) := by
 intro w b t0 tl h hn
 have H := hid h
 have hbR : b < w.heap.size := h.lt
 clear h
 go_enter Tryz.func105, Tryz.ntmps105
 go_wp2_with fail
 obtain ⟨W0, hW0, HI⟩ := jn1 H.out 24
 rw [hW0]
 clear hW0
 have hz0 := HI.out.size
 have hlt0 : tl.length < N := by simp only [List.length_cons] at hn; omega
 obtain ⟨hf0, hf1, hf2, hf3⟩ := fld_tk (.int .i64 t0.kind) (.int .i64 t0.pos) (.string ⟨t0.text.toArray⟩) (.int .i64 t0.num)
 refine (dtake _ b z t0 tl e d (by repeat (with_reducible (first | exact HI.out.rd | apply Dr.drew)))).mono ?_
 intro en w1 HD
 obtain ⟨rfl, HR1, HK1⟩ := HD.yes rfl
 dsimp only [tkV]
 clear HD
 have ht1 := HK1.out.size
 have HRS1 := hid ((show Blk _ w.heap.size [_, _, _, _, _] by repeat (with_reducible (first | exact HI.out.one | apply Blk.drew))).kp HK1.out (by omega))
 have HKA1 := hid ((show Kp b w _ by repeat (with_reducible (first | exact HI.out.kp | apply Kp.drew))).trans HK1.out)
 go_wp2_with fail
 refine (hE.calls _ b tl (by repeat (with_reducible (first | exact HR1.out | apply Dr.drew))) hlt0).mono ?_
 intro en w2 HD
 rcases hx2 : E tl with f2 | ⟨y2, ts2⟩
 ·obtain ⟨rfl, HK2⟩ := HD.no hx2
  have HKE := hid ((show Kp b w _ by repeat (with_reducible (first | exact HKA1.out | apply Kp.drew))).trans HK2.out)
  go_wp2_with fail
  exact ⟨rfl, DRes.err (by simp [Sy.casesB, Sy.takeB, Sy.lookB, Sy.iteB_takes, Sy.bnd, hx2]) HKE.out⟩
 have H2 := hid hx2
 have hn2 : ts2.length < N := Nat.lt_of_le_of_lt (hE.le _ _ (Nat.le_refl _) _ _ hx2) hlt0
 obtain ⟨a2, l2, c2, rfl, HKd2, HR2, HK2⟩ := HD.yes hx2
 clear hx2 HD
 obtain ⟨W2, hW2, HV2, HRd2, HKp2, hs2, ht2⟩ := jvar_new HKd2.out HR2.out HK2.out 24
 have HRS2 := hid ((show Blk _ w.heap.size [_, _, _, _, _] by repeat (with_reducible (first | exact HRS1.out | apply Blk.drew))).kp HKp2.out (by omega))
 have HKA2 := hid ((show Kp b w _ by repeat (with_reducible (first | exact HKA1.out | apply Kp.drew))).trans HKp2.out)
 have hne2 : ¬ w2.heap.size = w.heap.size := by omega
 have hno2 : ¬ w.heap.size = w2.heap.size := by omega
 go_wp2_with fail
 try rw [hW2]
 clear hW2
 refine (dneed _ b z ts2 e d Sy.w_of (by decide) (by repeat (with_reducible (first | exact HRd2.out | apply Dr.drew)))).mono ?_
 intro en w3 HD
 rcases hx3 : Sy.needB z Sy.w_of ts2 with f3 | ⟨u3, ts3⟩
 ·obtain ⟨rfl, HK3⟩ := HD.no hx3
  have HKE := hid ((show Kp b w _ by repeat (with_reducible (first | exact HKA2.out | apply Kp.drew))).trans HK3.out)
  go_wp2_with fail
  exact ⟨rfl, DRes.err (by simp [Sy.casesB, Sy.takeB, Sy.lookB, Sy.iteB_takes, Sy.bnd, H2.out, hx3]) HKE.out⟩
 have H3 := hid hx3
 have hn3 : ts3.length < N := Nat.lt_of_le_of_lt (le_need (Nat.le_refl _) _ _ hx3) hn2
 obtain ⟨rfl, HR3, HK3⟩ := HD.yes hx3
 clear hx3 HD
 have ht3 := HK3.out.size
 have HV2_3 := hid ((show Vr _ w2.heap.size w1.heap.size y2 a2 l2 c2 by repeat (with_reducible (first | exact HV2.out | apply Vr.drew))).kp HK3.out (by omega) (by omega))
 have HRS3 := hid ((show Blk _ w.heap.size [_, _, _, _, _] by repeat (with_reducible (first | exact HRS2.out | apply Blk.drew))).kp HK3.out (by omega))
 have HKA3 := hid ((show Kp b w _ by repeat (with_reducible (first | exact HKA2.out | apply Kp.drew))).trans HK3.out)
 go_wp2_with fail
 refine (dneed _ b z ts3 e d Sy.s_ls (by decide) (by repeat (with_reducible (first | exact HR3.out | apply Dr.drew)))).mono ?_
 intro en w4 HD
 rcases hx4 : Sy.needB z Sy.s_ls ts3 with f4 | ⟨u4, ts4⟩
 ·obtain ⟨rfl, HK4⟩ := HD.no hx4
  have HKE := hid ((show Kp b w _ by repeat (with_reducible (first | exact HKA3.out | apply Kp.drew))).trans HK4.out)
  go_wp2_with fail
  exact ⟨rfl, DRes.err (by simp [Sy.casesB, Sy.takeB, Sy.lookB, Sy.iteB_takes, Sy.bnd, H2.out, H3.out, hx4]) HKE.out⟩
 have H4 := hid hx4
 have hn4 : ts4.length < N := Nat.lt_of_le_of_lt (le_need (Nat.le_refl _) _ _ hx4) hn3
 obtain ⟨rfl, HR4, HK4⟩ := HD.yes hx4
 clear hx4 HD
 have ht4 := HK4.out.size
 have HV2_4 := hid ((show Vr _ w2.heap.size w1.heap.size y2 a2 l2 c2 by repeat (with_reducible (first | exact HV2_3.out | apply Vr.drew))).kp HK4.out (by omega) (by omega))
 have HRS4 := hid ((show Blk _ w.heap.size [_, _, _, _, _] by repeat (with_reducible (first | exact HRS3.out | apply Blk.drew))).kp HK4.out (by omega))
 have HKA4 := hid ((show Kp b w _ by repeat (with_reducible (first | exact HKA3.out | apply Kp.drew))).trans HK4.out)
 go_wp2_with fail
 refine (dneed _ b z ts4 e d Sy.s_rs (by decide) (by repeat (with_reducible (first | exact HR4.out | apply Dr.drew)))).mono ?_
 intro en w5 HD
 rcases hx5 : Sy.needB z Sy.s_rs ts4 with f5 | ⟨u5, ts5⟩
 ·obtain ⟨rfl, HK5⟩ := HD.no hx5
  have HKE := hid ((show Kp b w _ by repeat (with_reducible (first | exact HKA4.out | apply Kp.drew))).trans HK5.out)
  go_wp2_with fail
  exact ⟨rfl, DRes.err (by simp [Sy.casesB, Sy.takeB, Sy.lookB, Sy.iteB_takes, Sy.bnd, H2.out, H3.out, H4.out, hx5]) HKE.out⟩
 have H5 := hid hx5
 have hn5 : ts5.length < N := Nat.lt_of_le_of_lt (le_need (Nat.le_refl _) _ _ hx5) hn4
 obtain ⟨rfl, HR5, HK5⟩ := HD.yes hx5
 clear hx5 HD
 have ht5 := HK5.out.size
 have HV2_5 := hid ((show Vr _ w2.heap.size w1.heap.size y2 a2 l2 c2 by repeat (with_reducible (first | exact HV2_4.out | apply Vr.drew))).kp HK5.out (by omega) (by omega))
 have HRS5 := hid ((show Blk _ w.heap.size [_, _, _, _, _] by repeat (with_reducible (first | exact HRS4.out | apply Blk.drew))).kp HK5.out (by omega))
 have HKA5 := hid ((show Kp b w _ by repeat (with_reducible (first | exact HKA4.out | apply Kp.drew))).trans HK5.out)
 go_wp2_with fail
 refine (dneed _ b z ts5 e d Sy.s_to (by decide) (by repeat (with_reducible (first | exact HR5.out | apply Dr.drew)))).mono ?_
 intro en w6 HD
 rcases hx6 : Sy.needB z Sy.s_to ts5 with f6 | ⟨u6, ts6⟩
 ·obtain ⟨rfl, HK6⟩ := HD.no hx6
  have HKE := hid ((show Kp b w _ by repeat (with_reducible (first | exact HKA5.out | apply Kp.drew))).trans HK6.out)
  go_wp2_with fail
  exact ⟨rfl, DRes.err (by simp [Sy.casesB, Sy.takeB, Sy.lookB, Sy.iteB_takes, Sy.bnd, H2.out, H3.out, H4.out, H5.out, hx6]) HKE.out⟩
 have H6 := hid hx6
 have hn6 : ts6.length < N := Nat.lt_of_le_of_lt (le_need (Nat.le_refl _) _ _ hx6) hn5
 obtain ⟨rfl, HR6, HK6⟩ := HD.yes hx6
 clear hx6 HD
 have ht6 := HK6.out.size
 have HV2_6 := hid ((show Vr _ w2.heap.size w1.heap.size y2 a2 l2 c2 by repeat (with_reducible (first | exact HV2_5.out | apply Vr.drew))).kp HK6.out (by omega) (by omega))
 have HRS6 := hid ((show Blk _ w.heap.size [_, _, _, _, _] by repeat (with_reducible (first | exact HRS5.out | apply Blk.drew))).kp HK6.out (by omega))
 have HKA6 := hid ((show Kp b w _ by repeat (with_reducible (first | exact HKA5.out | apply Kp.drew))).trans HK6.out)
 go_wp2_with fail
 refine (hE.calls _ b ts6 (by repeat (with_reducible (first | exact HR6.out | apply Dr.drew))) hn6).mono ?_
 intro en w7 HD
 rcases hx7 : E ts6 with f7 | ⟨y7, ts7⟩
 ·obtain ⟨rfl, HK7⟩ := HD.no hx7
  have HKE := hid ((show Kp b w _ by repeat (with_reducible (first | exact HKA6.out | apply Kp.drew))).trans HK7.out)
  go_wp2_with fail
  exact ⟨rfl, DRes.err (by simp [Sy.casesB, Sy.takeB, Sy.lookB, Sy.iteB_takes, Sy.bnd, H2.out, H3.out, H4.out, H5.out, H6.out, hx7]) HKE.out⟩
 have H7 := hid hx7
 have hn7 : ts7.length < N := Nat.lt_of_le_of_lt (hE.le _ _ (Nat.le_refl _) _ _ hx7) hn6
 obtain ⟨a7, l7, c7, rfl, HKd7, HR7, HK7⟩ := HD.yes hx7
 clear hx7 HD
 obtain ⟨W7, hW7, HV7, HRd7, HKp7, hs7, ht7⟩ := jvar_new HKd7.out HR7.out HK7.out 24
 have HV2_7 := hid ((show Vr _ w2.heap.size w1.heap.size y2 a2 l2 c2 by repeat (with_reducible (first | exact HV2_6.out | apply Vr.drew))).kp HKp7.out (by omega) (by omega))
 have HRS7 := hid ((show Blk _ w.heap.size [_, _, _, _, _] by repeat (with_reducible (first | exact HRS6.out | apply Blk.drew))).kp HKp7.out (by omega))
 have HKA7 := hid ((show Kp b w _ by repeat (with_reducible (first | exact HKA6.out | apply Kp.drew))).trans HKp7.out)
 have hne7 : ¬ w7.heap.size = w.heap.size := by omega
 have hno7 : ¬ w.heap.size = w7.heap.size := by omega
 go_wp2_with fail
 try rw [hW7]
 clear hW7
 refine (dneed _ b z ts7 e d Sy.s_bar (by decide) (by repeat (with_reducible (first | exact HRd7.out | apply Dr.drew)))).mono ?_
 intro en w8 HD
 rcases hx8 : Sy.needB z Sy.s_bar ts7 with f8 | ⟨u8, ts8⟩
 ·obtain ⟨rfl, HK8⟩ := HD.no hx8
  have HKE := hid ((show Kp b w _ by repeat (with_reducible (first | exact HKA7.out | apply Kp.drew))).trans HK8.out)
  go_wp2_with fail
  exact ⟨rfl, DRes.err (by simp [Sy.casesB, Sy.takeB, Sy.lookB, Sy.iteB_takes, Sy.bnd, H2.out, H3.out, H4.out, H5.out, H6.out, H7.out, hx8]) HKE.out⟩
 have H8 := hid hx8
 have hn8 : ts8.length < N := Nat.lt_of_le_of_lt (le_need (Nat.le_refl _) _ _ hx8) hn7
 obtain ⟨rfl, HR8, HK8⟩ := HD.yes hx8
 clear hx8 HD
 have ht8 := HK8.out.size
 have HV2_8 := hid ((show Vr _ w2.heap.size w1.heap.size y2 a2 l2 c2 by repeat (with_reducible (first | exact HV2_7.out | apply Vr.drew))).kp HK8.out (by omega) (by omega))
 have HV7_8 := hid ((show Vr _ w7.heap.size w6.heap.size y7 a7 l7 c7 by repeat (with_reducible (first | exact HV7.out | apply Vr.drew))).kp HK8.out (by omega) (by omega))
 have HRS8 := hid ((show Blk _ w.heap.size [_, _, _, _, _] by repeat (with_reducible (first | exact HRS7.out | apply Blk.drew))).kp HK8.out (by omega))
 have HKA8 := hid ((show Kp b w _ by repeat (with_reducible (first | exact HKA7.out | apply Kp.drew))).trans HK8.out)
 go_wp2_with fail
 refine (dnamed _ b z ts8 e d (by repeat (with_reducible (first | exact HR8.out | apply Dr.drew)))).mono ?_
 intro en w9 HD
 rcases hx9 : Sy.namedB z ts8 with f9 | ⟨y9, ts9⟩
 ·obtain ⟨rfl, HK9⟩ := HD.no hx9
  have HKE := hid ((show Kp b w _ by repeat (with_reducible (first | exact HKA8.out | apply Kp.drew))).trans HK9.out)
  go_wp2_with fail
  exact ⟨rfl, DRes.err (by simp [Sy.casesB, Sy.takeB, Sy.lookB, Sy.iteB_takes, Sy.bnd, H2.out, H3.out, H4.out, H5.out, H6.out, H7.out, H8.out, hx9]) HKE.out⟩
 have H9 := hid hx9
 have hn9 : ts9.length < N := Nat.lt_of_le_of_lt (le_named (Nat.le_refl _) _ _ hx9) hn8
 obtain ⟨a9, l9, c9, rfl, HKd9, HR9, HK9⟩ := HD.yes hx9
 clear hx9 HD
 obtain ⟨W9, hW9, HV9, HRd9, HKp9, hs9, ht9⟩ := jvar_new HKd9.out HR9.out HK9.out 24
 have HV2_9 := hid ((show Vr _ w2.heap.size w1.heap.size y2 a2 l2 c2 by repeat (with_reducible (first | exact HV2_8.out | apply Vr.drew))).kp HKp9.out (by omega) (by omega))
 have HV7_9 := hid ((show Vr _ w7.heap.size w6.heap.size y7 a7 l7 c7 by repeat (with_reducible (first | exact HV7_8.out | apply Vr.drew))).kp HKp9.out (by omega) (by omega))
 have HRS9 := hid ((show Blk _ w.heap.size [_, _, _, _, _] by repeat (with_reducible (first | exact HRS8.out | apply Blk.drew))).kp HKp9.out (by omega))
 have HKA9 := hid ((show Kp b w _ by repeat (with_reducible (first | exact HKA8.out | apply Kp.drew))).trans HKp9.out)
 have hne9 : ¬ w9.heap.size = w.heap.size := by omega
 have hno9 : ¬ w.heap.size = w9.heap.size := by omega
 go_wp2_with fail
 try rw [hW9]
 clear hW9
 refine (dneed _ b z ts9 e d Sy.s_cons (by decide) (by repeat (with_reducible (first | exact HRd9.out | apply Dr.drew)))).mono ?_
 intro en w10 HD
 rcases hx10 : Sy.needB z Sy.s_cons ts9 with f10 | ⟨u10, ts10⟩
 ·obtain ⟨rfl, HK10⟩ := HD.no hx10
  have HKE := hid ((show Kp b w _ by repeat (with_reducible (first | exact HKA9.out | apply Kp.drew))).trans HK10.out)
  go_wp2_with fail
  exact ⟨rfl, DRes.err (by simp [Sy.casesB, Sy.takeB, Sy.lookB, Sy.iteB_takes, Sy.bnd, H2.out, H3.out, H4.out, H5.out, H6.out, H7.out, H8.out, H9.out, hx10]) HKE.out⟩
 have H10 := hid hx10
 have hn10 : ts10.length < N := Nat.lt_of_le_of_lt (le_need (Nat.le_refl _) _ _ hx10) hn9
 obtain ⟨rfl, HR10, HK10⟩ := HD.yes hx10
 clear hx10 HD
 have ht10 := HK10.out.size
 have HV2_10 := hid ((show Vr _ w2.heap.size w1.heap.size y2 a2 l2 c2 by repeat (with_reducible (first | exact HV2_9.out | apply Vr.drew))).kp HK10.out (by omega) (by omega))
 have HV7_10 := hid ((show Vr _ w7.heap.size w6.heap.size y7 a7 l7 c7 by repeat (with_reducible (first | exact HV7_9.out | apply Vr.drew))).kp HK10.out (by omega) (by omega))
 have HV9_10 := hid ((show Vr _ w9.heap.size w8.heap.size y9 a9 l9 c9 by repeat (with_reducible (first | exact HV9.out | apply Vr.drew))).kp HK10.out (by omega) (by omega))
 have HRS10 := hid ((show Blk _ w.heap.size [_, _, _, _, _] by repeat (with_reducible (first | exact HRS9.out | apply Blk.drew))).kp HK10.out (by omega))
 have HKA10 := hid ((show Kp b w _ by repeat (with_reducible (first | exact HKA9.out | apply Kp.drew))).trans HK10.out)
 go_wp2_with fail
 refine (dnamed _ b z ts10 e d (by repeat (with_reducible (first | exact HR10.out | apply Dr.drew)))).mono ?_
 intro en w11 HD
 rcases hx11 : Sy.namedB z ts10 with f11 | ⟨y11, ts11⟩
 ·obtain ⟨rfl, HK11⟩ := HD.no hx11
  have HKE := hid ((show Kp b w _ by repeat (with_reducible (first | exact HKA10.out | apply Kp.drew))).trans HK11.out)
  go_wp2_with fail
  exact ⟨rfl, DRes.err (by simp [Sy.casesB, Sy.takeB, Sy.lookB, Sy.iteB_takes, Sy.bnd, H2.out, H3.out, H4.out, H5.out, H6.out, H7.out, H8.out, H9.out, H10.out, hx11]) HKE.out⟩
 have H11 := hid hx11
 have hn11 : ts11.length < N := Nat.lt_of_le_of_lt (le_named (Nat.le_refl _) _ _ hx11) hn10
 obtain ⟨a11, l11, c11, rfl, HKd11, HR11, HK11⟩ := HD.yes hx11
 clear hx11 HD
 obtain ⟨W11, hW11, HV11, HRd11, HKp11, hs11, ht11⟩ := jvar_new HKd11.out HR11.out HK11.out 24
 have HV2_11 := hid ((show Vr _ w2.heap.size w1.heap.size y2 a2 l2 c2 by repeat (with_reducible (first | exact HV2_10.out | apply Vr.drew))).kp HKp11.out (by omega) (by omega))
 have HV7_11 := hid ((show Vr _ w7.heap.size w6.heap.size y7 a7 l7 c7 by repeat (with_reducible (first | exact HV7_10.out | apply Vr.drew))).kp HKp11.out (by omega) (by omega))
 have HV9_11 := hid ((show Vr _ w9.heap.size w8.heap.size y9 a9 l9 c9 by repeat (with_reducible (first | exact HV9_10.out | apply Vr.drew))).kp HKp11.out (by omega) (by omega))
 have HRS11 := hid ((show Blk _ w.heap.size [_, _, _, _, _] by repeat (with_reducible (first | exact HRS10.out | apply Blk.drew))).kp HKp11.out (by omega))
 have HKA11 := hid ((show Kp b w _ by repeat (with_reducible (first | exact HKA10.out | apply Kp.drew))).trans HKp11.out)
 have hne11 : ¬ w11.heap.size = w.heap.size := by omega
 have hno11 : ¬ w.heap.size = w11.heap.size := by omega
 go_wp2_with fail
 try rw [hW11]
 clear hW11
 refine (dneed _ b z ts11 e d Sy.s_to (by decide) (by repeat (with_reducible (first | exact HRd11.out | apply Dr.drew)))).mono ?_
 intro en w12 HD
 rcases hx12 : Sy.needB z Sy.s_to ts11 with f12 | ⟨u12, ts12⟩
 ·obtain ⟨rfl, HK12⟩ := HD.no hx12
  have HKE := hid ((show Kp b w _ by repeat (with_reducible (first | exact HKA11.out | apply Kp.drew))).trans HK12.out)
  go_wp2_with fail
  exact ⟨rfl, DRes.err (by simp [Sy.casesB, Sy.takeB, Sy.lookB, Sy.iteB_takes, Sy.bnd, H2.out, H3.out, H4.out, H5.out, H6.out, H7.out, H8.out, H9.out, H10.out, H11.out, hx12]) HKE.out⟩
 have H12 := hid hx12
 have hn12 : ts12.length < N := Nat.lt_of_le_of_lt (le_need (Nat.le_refl _) _ _ hx12) hn11
 obtain ⟨rfl, HR12, HK12⟩ := HD.yes hx12
 clear hx12 HD
 have ht12 := HK12.out.size
 have HV2_12 := hid ((show Vr _ w2.heap.size w1.heap.size y2 a2 l2 c2 by repeat (with_reducible (first | exact HV2_11.out | apply Vr.drew))).kp HK12.out (by omega) (by omega))
 have HV7_12 := hid ((show Vr _ w7.heap.size w6.heap.size y7 a7 l7 c7 by repeat (with_reducible (first | exact HV7_11.out | apply Vr.drew))).kp HK12.out (by omega) (by omega))
 have HV9_12 := hid ((show Vr _ w9.heap.size w8.heap.size y9 a9 l9 c9 by repeat (with_reducible (first | exact HV9_11.out | apply Vr.drew))).kp HK12.out (by omega) (by omega))
 have HV11_12 := hid ((show Vr _ w11.heap.size w10.heap.size y11 a11 l11 c11 by repeat (with_reducible (first | exact HV11.out | apply Vr.drew))).kp HK12.out (by omega) (by omega))
 have HRS12 := hid ((show Blk _ w.heap.size [_, _, _, _, _] by repeat (with_reducible (first | exact HRS11.out | apply Blk.drew))).kp HK12.out (by omega))
 have HKA12 := hid ((show Kp b w _ by repeat (with_reducible (first | exact HKA11.out | apply Kp.drew))).trans HK12.out)
 go_wp2_with fail
 refine (hE.calls _ b ts12 (by repeat (with_reducible (first | exact HR12.out | apply Dr.drew))) hn12).mono ?_
 intro en w13 HD
 rcases hx13 : E ts12 with f13 | ⟨y13, ts13⟩
 ·obtain ⟨rfl, HK13⟩ := HD.no hx13
  have HKE := hid ((show Kp b w _ by repeat (with_reducible (first | exact HKA12.out | apply Kp.drew))).trans HK13.out)
  go_wp2_with fail
  exact ⟨rfl, DRes.err (by simp [Sy.casesB, Sy.takeB, Sy.lookB, Sy.iteB_takes, Sy.bnd, H2.out, H3.out, H4.out, H5.out, H6.out, H7.out, H8.out, H9.out, H10.out, H11.out, H12.out, hx13]) HKE.out⟩
 have H13 := hid hx13
 have hn13 : ts13.length < N := Nat.lt_of_le_of_lt (hE.le _ _ (Nat.le_refl _) _ _ hx13) hn12
 obtain ⟨a13, l13, c13, rfl, HKd13, HR13, HK13⟩ := HD.yes hx13
 clear hx13 HD
 obtain ⟨W13, hW13, HV13, HRd13, HKp13, hs13, ht13⟩ := jvar_new HKd13.out HR13.out HK13.out 24
 have HV2_13 := hid ((show Vr _ w2.heap.size w1.heap.size y2 a2 l2 c2 by repeat (with_reducible (first | exact HV2_12.out | apply Vr.drew))).kp HKp13.out (by omega) (by omega))
 have HV7_13 := hid ((show Vr _ w7.heap.size w6.heap.size y7 a7 l7 c7 by repeat (with_reducible (first | exact HV7_12.out | apply Vr.drew))).kp HKp13.out (by omega) (by omega))
 have HV9_13 := hid ((show Vr _ w9.heap.size w8.heap.size y9 a9 l9 c9 by repeat (with_reducible (first | exact HV9_12.out | apply Vr.drew))).kp HKp13.out (by omega) (by omega))
 have HV11_13 := hid ((show Vr _ w11.heap.size w10.heap.size y11 a11 l11 c11 by repeat (with_reducible (first | exact HV11_12.out | apply Vr.drew))).kp HKp13.out (by omega) (by omega))
 have HRS13 := hid ((show Blk _ w.heap.size [_, _, _, _, _] by repeat (with_reducible (first | exact HRS12.out | apply Blk.drew))).kp HKp13.out (by omega))
 have HKA13 := hid ((show Kp b w _ by repeat (with_reducible (first | exact HKA12.out | apply Kp.drew))).trans HKp13.out)
 have hne13 : ¬ w13.heap.size = w.heap.size := by omega
 have hno13 : ¬ w.heap.size = w13.heap.size := by omega
 go_wp2_with fail
 try rw [hW13]
 clear hW13
 refine (dneed _ b z ts13 e d Sy.w_end (by decide) (by repeat (with_reducible (first | exact HRd13.out | apply Dr.drew)))).mono ?_
 intro en w14 HD
 rcases hx14 : Sy.needB z Sy.w_end ts13 with f14 | ⟨u14, ts14⟩
 ·obtain ⟨rfl, HK14⟩ := HD.no hx14
  have HKE := hid ((show Kp b w _ by repeat (with_reducible (first | exact HKA13.out | apply Kp.drew))).trans HK14.out)
  go_wp2_with fail
  exact ⟨rfl, DRes.err (by simp [Sy.casesB, Sy.takeB, Sy.lookB, Sy.iteB_takes, Sy.bnd, H2.out, H3.out, H4.out, H5.out, H6.out, H7.out, H8.out, H9.out, H10.out, H11.out, H12.out, H13.out, hx14]) HKE.out⟩
 have H14 := hid hx14
 have hn14 : ts14.length < N := Nat.lt_of_le_of_lt (le_need (Nat.le_refl _) _ _ hx14) hn13
 obtain ⟨rfl, HR14, HK14⟩ := HD.yes hx14
 clear hx14 HD
 have ht14 := HK14.out.size
 have HV2_14 := hid ((show Vr _ w2.heap.size w1.heap.size y2 a2 l2 c2 by repeat (with_reducible (first | exact HV2_13.out | apply Vr.drew))).kp HK14.out (by omega) (by omega))
 have HV7_14 := hid ((show Vr _ w7.heap.size w6.heap.size y7 a7 l7 c7 by repeat (with_reducible (first | exact HV7_13.out | apply Vr.drew))).kp HK14.out (by omega) (by omega))
 have HV9_14 := hid ((show Vr _ w9.heap.size w8.heap.size y9 a9 l9 c9 by repeat (with_reducible (first | exact HV9_13.out | apply Vr.drew))).kp HK14.out (by omega) (by omega))
 have HV11_14 := hid ((show Vr _ w11.heap.size w10.heap.size y11 a11 l11 c11 by repeat (with_reducible (first | exact HV11_13.out | apply Vr.drew))).kp HK14.out (by omega) (by omega))
 have HV13_14 := hid ((show Vr _ w13.heap.size w12.heap.size y13 a13 l13 c13 by repeat (with_reducible (first | exact HV13.out | apply Vr.drew))).kp HK14.out (by omega) (by omega))
 have HRS14 := hid ((show Blk _ w.heap.size [_, _, _, _, _] by repeat (with_reducible (first | exact HRS13.out | apply Blk.drew))).kp HK14.out (by omega))
 have HKA14 := hid ((show Kp b w _ by repeat (with_reducible (first | exact HKA13.out | apply Kp.drew))).trans HK14.out)
 obtain ⟨⟨q1_0, q1_1, q1_2, q1_3, q1_4⟩, q1_5, q1_6, q1_7, q1_8, q1_9⟩ := blk5 HV2_14.out.cells
 obtain ⟨⟨q2_0, q2_1, q2_2, q2_3, q2_4⟩, q2_5, q2_6, q2_7, q2_8, q2_9⟩ := blk5 HV7_14.out.cells
 obtain ⟨⟨q3_0, q3_1, q3_2, q3_3, q3_4⟩, q3_5, q3_6, q3_7, q3_8, q3_9⟩ := blk5 HV9_14.out.cells
 obtain ⟨⟨q4_0, q4_1, q4_2, q4_3, q4_4⟩, q4_5, q4_6, q4_7, q4_8, q4_9⟩ := blk5 HV11_14.out.cells
 obtain ⟨⟨q5_0, q5_1, q5_2, q5_3, q5_4⟩, q5_5, q5_6, q5_7, q5_8, q5_9⟩ := blk5 HV13_14.out.cells
 obtain ⟨⟨u6_0, u6_1, u6_2, u6_3, u6_4⟩, u6_5, u6_6, u6_7, u6_8, u6_9⟩ := blk5 HRS14.out
 have hlw : w.heap.size < w14.heap.size := Blk.lt HRS14.out
 go_wp2_with fail
 refine bodyPost_ret (v := .agg #[.int .i64 17, .int .i64 t0.pos, .string ⟨([] : List UInt8).toArray⟩, .int .i64 0, .slice (some ⟨w14.heap.size, 0, none⟩) 5 5]) (by simp [results, Tryz.results105, go_sem, u6_0, u6_1, u6_2, u6_3, u6_4, hlw]) rfl ?_
 exact dres_finl (lo := W0.heap.size) (Sy.nd 17 t0.pos [y2, y7, y9, y11, y13]) ts14 [(y2, .slice a2 l2 c2), (y7, .slice a7 l7 c7), (y9, .slice a9 l9 c9), (y11, .slice a11 l11 c11), (y13, .slice a13 l13 c13)] (by simp) (by intro p hp; simp only [List.mem_cons, List.not_mem_nil, or_false] at hp; rcases hp with rfl | rfl | rfl | rfl | rfl <;> first | exact (HV2_14.out.kids.free (by omega)) | exact (HV7_14.out.kids.free (by omega)) | exact (HV9_14.out.kids.free (by omega)) | exact (HV11_14.out.kids.free (by omega)) | exact (HV13_14.out.kids.free (by omega))) rfl HR14.out HKA14.out (by simp [Sy.casesB, Sy.takeB, Sy.lookB, Sy.iteB_takes, Sy.bnd, H2.out, H3.out, H4.out, H5.out, H6.out, H7.out, H8.out, H9.out, H10.out, H11.out, H12.out, H13.out, H14.out]) (by omega) (by omega) (by omega) (by omega) _ rfl 5 rfl _ _ _ _ _ rfl rfl rfl rfl _ _ _ _ _ _ rfl
end Go.Proofs.YtoajnlhegallpaaGreatDoor
