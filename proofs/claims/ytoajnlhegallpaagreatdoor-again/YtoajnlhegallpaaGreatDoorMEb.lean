/-
  What the program's rules do: operation.
  What the program's rules do: program.
-/
import Derived.Test.YtoajnlhegallpaaGreatDoorMEa
set_option linter.unusedVariables false
set_option linter.unusedSimpArgs false
set_option maxRecDepth 100000
set_option maxHeartbeats 4000000
namespace Go.Proofs.YtoajnlhegallpaaGreatDoor
open Go.RowKit

theorem doperation (N e d : Nat) (z : Sy.Env) (T : List Lx.Tk → Sy.R Sy.Tr) (hT : TOK N e d z T) (F : List Lx.Tk → Sy.R Sy.Tr)
  (hF : ∀ t0 tl, F (t0 :: tl) = Sy.iteB z Sy.w_once tl
   (fun ts => Sy.bnd (Sy.kindB z 2 ts) fun x ts => Sy.bnd (Sy.needB z Sy.s_colon ts) fun _ ts => Sy.bnd (T ts) fun a ts => Sy.bnd (Sy.needB z Sy.s_to ts) fun _ ts => Sy.bnd (T ts) fun b ts => .ok (.mk 1 t0.pos x.text 1 [a, b], ts))
   (fun ts => Sy.bnd (Sy.needB z Sy.w_many ts) fun _ ts => Sy.bnd (Sy.kindB z 2 ts) fun x ts => Sy.bnd (Sy.needB z Sy.s_colon ts) fun _ ts => Sy.bnd (T ts) fun a ts => Sy.bnd (Sy.needB z Sy.s_to ts) fun _ ts => Sy.bnd (T ts) fun b ts => .ok (.mk 1 t0.pos x.text 0 [a, b], ts))) : ROK1 31 N e d z F := by
 intro w b t0 tl h hn
 have H := hid h
 have hbR : b < w.heap.size := h.lt
 clear h
 go_enter Tryz.func31, Tryz.ntmps31
 go_wp2_with fail
 obtain ⟨W0, hW0, HI⟩ := jn1 H.out 24
 rw [hW0]
 clear hW0
 have hz0 := HI.out.size
 have hlt0 : tl.length < N := by simp only [List.length_cons] at hn; omega
 obtain ⟨hf0, hf1, hf2, hf3⟩ := fld_tk (.int .i64 t0.kind) (.int .i64 t0.pos) (.string ⟨t0.text.toArray⟩) (.int .i64 t0.num)
 refine (dtake _ b z t0 tl e d (by repeat (with_reducible (first | exact HI.out.rd | apply Dr.drew)))).mono ?_
 intro en w1 HD
 obtain ⟨rfl, HR1, HK1⟩ := HD.yes rfl
 dsimp only [tkV]
 clear HD
 have ht1 := HK1.out.size
 have HRS1 := hid ((show Blk _ w.heap.size [_, _, _, _, _] by repeat (with_reducible (first | exact HI.out.one | apply Blk.drew))).kp HK1.out (by omega))
 have HKA1 := hid ((show Kp b w _ by repeat (with_reducible (first | exact HI.out.kp | apply Kp.drew))).trans HK1.out)
 obtain ⟨W1, hW1, HB1, HRd1, HKp1, hs1, hu1⟩ := jblk_new (.int .i64 1) (.int .i64 t0.pos) (.string ⟨#[]⟩) (.int .i64 0) (.slice none 0 0) HR1.out HK1.out 24
 have HRSx := hid (HI.out.one.kp HKp1.out (by omega))
 have HKAx := hid (HI.out.kp.trans HKp1.out)
 have HWW := hid hW1
 clear hW1
 go_wp2_with fail
 rw [HWW.out]
 have hneA : ¬ w1.heap.size = w.heap.size := by omega
 have hneB : ¬ w.heap.size = w1.heap.size := by omega
 refine (dtakes _ b z tl e d Sy.w_once (by decide) (by repeat (with_reducible (first | exact HRd1.out | apply Dr.drew)))).mono ?_
 intro en w2 HD
 rcases hx2 : Sy.takesB z Sy.w_once tl with f2 | ⟨v2, ts2⟩
 ·obtain ⟨rfl, HK2⟩ := HD.no hx2
  have HKE := hid ((show Kp b w _ by repeat (with_reducible (first | exact HKAx.out | apply Kp.drew))).trans HK2.out)
  go_wp2_with fail
  exact ⟨rfl, DRes.err (by rw [hF]; simp [Sy.iteB_takes, Sy.bnd, hx2]) HKE.out⟩
 have H2 := hid hx2
 have hn2 : ts2.length < N := Nat.lt_of_le_of_lt (le_takes (Nat.le_refl _) _ _ hx2) hlt0
 obtain ⟨rfl, HR2, HK2⟩ := HD.yes hx2
 clear hx2 HD
 have ht2 := HK2.out.size
 have HBn_2 := hid ((show Blk _ w1.heap.size [_, _, _, _, _] by repeat (with_reducible (first | exact HB1.out | apply Blk.drew))).kp HK2.out (by omega))
 have HRS2 := hid ((show Blk _ w.heap.size [_, _, _, _, _] by repeat (with_reducible (first | exact HRSx.out | apply Blk.drew))).kp HK2.out (by omega))
 have HKA2 := hid ((show Kp b w _ by repeat (with_reducible (first | exact HKAx.out | apply Kp.drew))).trans HK2.out)
 cases v2 with
 | true =>
  obtain ⟨⟨b1_0, b1_1, b1_2, b1_3, b1_4⟩, b1_5, b1_6, b1_7, b1_8, b1_9⟩ := blk5 HBn_2.out
  obtain ⟨j2, hj2, HBj2, HRj2, HKj2, HSj2, hzj2⟩ := jset HBn_2.out HR2.out HKA2.out HRS2.out (by omega) (by omega) (by omega) 3 (by decide) (.int .i64 1)
  have Hj2 := hid hj2
  clear hj2
  have HBsj2 : Hid (Blk j2 w1.heap.size [.int .i64 1, .int .i64 t0.pos, .string ⟨#[]⟩, .int .i64 1, .slice none 0 0]) := HBj2
  go_wp2_with fail
  rw [Hj2.out]
  refine (dname _ b z ts2 e d (by repeat (with_reducible (first | exact HRj2.out | apply Dr.drew)))).mono ?_
  intro en w3 HD
  rcases hx3 : Sy.kindB z 2 ts2 with f3 | ⟨t3, ts3⟩
  ·obtain ⟨rfl, HK3⟩ := HD.no hx3
   have HKE := hid ((show Kp b w _ by repeat (with_reducible (first | exact HKj2.out | apply Kp.drew))).trans HK3.out)
   go_wp2_with fail
   exact ⟨rfl, DRes.err (by rw [hF]; simp [Sy.iteB_takes, Sy.bnd, H2.out, hx3]) HKE.out⟩
  have H3 := hid hx3
  have hn3 : ts3.length < N := Nat.lt_of_le_of_lt (le_kind (Nat.le_refl _) _ _ hx3) hn2
  obtain ⟨rfl, HR3, HK3⟩ := HD.yes hx3
  dsimp only [tkV]
  clear hx3 HD
  have ht3 := HK3.out.size
  have HBn_3 := hid ((show Blk _ w1.heap.size [_, _, _, _, _] by repeat (with_reducible (first | exact HBsj2.out | apply Blk.drew))).kp HK3.out (by omega))
  have HRS3 := hid ((show Blk _ w.heap.size [_, _, _, _, _] by repeat (with_reducible (first | exact HSj2.out | apply Blk.drew))).kp HK3.out (by omega))
  have HKA3 := hid ((show Kp b w _ by repeat (with_reducible (first | exact HKj2.out | apply Kp.drew))).trans HK3.out)
  obtain ⟨hf3_0, hf3_1, hf3_2, hf3_3⟩ := fld_tk (.int .i64 t3.kind) (.int .i64 t3.pos) (.string ⟨t3.text.toArray⟩) (.int .i64 t3.num)
  obtain ⟨⟨b3_0, b3_1, b3_2, b3_3, b3_4⟩, b3_5, b3_6, b3_7, b3_8, b3_9⟩ := blk5 HBn_3.out
  obtain ⟨j4, hj4, HBj4, HRj4, HKj4, HSj4, hzj4⟩ := jset HBn_3.out HR3.out HKA3.out HRS3.out (by omega) (by omega) (by omega) 2 (by decide) (.string ⟨t3.text.toArray⟩)
  have Hj4 := hid hj4
  clear hj4
  have HBsj4 : Hid (Blk j4 w1.heap.size [.int .i64 1, .int .i64 t0.pos, .string ⟨t3.text.toArray⟩, .int .i64 1, .slice none 0 0]) := HBj4
  go_wp2_with fail
  rw [Hj4.out]
  refine (dneed _ b z ts3 e d Sy.s_colon (by decide) (by repeat (with_reducible (first | exact HRj4.out | apply Dr.drew)))).mono ?_
  intro en w4 HD
  rcases hx4 : Sy.needB z Sy.s_colon ts3 with f4 | ⟨u4, ts4⟩
  ·obtain ⟨rfl, HK4⟩ := HD.no hx4
   have HKE := hid ((show Kp b w _ by repeat (with_reducible (first | exact HKj4.out | apply Kp.drew))).trans HK4.out)
   go_wp2_with fail
   exact ⟨rfl, DRes.err (by rw [hF]; simp [Sy.iteB_takes, Sy.bnd, H2.out, H3.out, hx4]) HKE.out⟩
  have H4 := hid hx4
  have hn4 : ts4.length < N := Nat.lt_of_le_of_lt (le_need (Nat.le_refl _) _ _ hx4) hn3
  obtain ⟨rfl, HR4, HK4⟩ := HD.yes hx4
  clear hx4 HD
  have ht4 := HK4.out.size
  have HBn_4 := hid ((show Blk _ w1.heap.size [_, _, _, _, _] by repeat (with_reducible (first | exact HBsj4.out | apply Blk.drew))).kp HK4.out (by omega))
  have HRS4 := hid ((show Blk _ w.heap.size [_, _, _, _, _] by repeat (with_reducible (first | exact HSj4.out | apply Blk.drew))).kp HK4.out (by omega))
  have HKA4 := hid ((show Kp b w _ by repeat (with_reducible (first | exact HKj4.out | apply Kp.drew))).trans HK4.out)
  go_wp2_with fail
  refine (hT.calls _ b ts4 (by repeat (with_reducible (first | exact HR4.out | apply Dr.drew))) hn4).mono ?_
  intro en w5 HD
  rcases hx5 : T ts4 with f5 | ⟨y5, ts5⟩
  ·obtain ⟨rfl, HK5⟩ := HD.no hx5
   have HKE := hid ((show Kp b w _ by repeat (with_reducible (first | exact HKA4.out | apply Kp.drew))).trans HK5.out)
   go_wp2_with fail
   exact ⟨rfl, DRes.err (by rw [hF]; simp [Sy.iteB_takes, Sy.bnd, H2.out, H3.out, H4.out, hx5]) HKE.out⟩
  have H5 := hid hx5
  have hn5 : ts5.length < N := Nat.lt_of_le_of_lt (hT.le _ _ (Nat.le_refl _) _ _ hx5) hn4
  obtain ⟨a5, l5, c5, rfl, HKd5, HR5, HK5⟩ := HD.yes hx5
  clear hx5 HD
  obtain ⟨W5, hW5, HV5, HRd5, HKp5, hs5, ht5⟩ := jvar_new HKd5.out HR5.out HK5.out 24
  have HBn_5 := hid ((show Blk _ w1.heap.size [_, _, _, _, _] by repeat (with_reducible (first | exact HBn_4.out | apply Blk.drew))).kp HKp5.out (by omega))
  have HRS5 := hid ((show Blk _ w.heap.size [_, _, _, _, _] by repeat (with_reducible (first | exact HRS4.out | apply Blk.drew))).kp HKp5.out (by omega))
  have HKA5 := hid ((show Kp b w _ by repeat (with_reducible (first | exact HKA4.out | apply Kp.drew))).trans HKp5.out)
  have hne5 : ¬ w5.heap.size = w.heap.size := by omega
  have hno5 : ¬ w.heap.size = w5.heap.size := by omega
  go_wp2_with fail
  try rw [hW5]
  clear hW5
  refine (dneed _ b z ts5 e d Sy.s_to (by decide) (by repeat (with_reducible (first | exact HRd5.out | apply Dr.drew)))).mono ?_
  intro en w6 HD
  rcases hx6 : Sy.needB z Sy.s_to ts5 with f6 | ⟨u6, ts6⟩
  ·obtain ⟨rfl, HK6⟩ := HD.no hx6
   have HKE := hid ((show Kp b w _ by repeat (with_reducible (first | exact HKA5.out | apply Kp.drew))).trans HK6.out)
   go_wp2_with fail
   exact ⟨rfl, DRes.err (by rw [hF]; simp [Sy.iteB_takes, Sy.bnd, H2.out, H3.out, H4.out, H5.out, hx6]) HKE.out⟩
  have H6 := hid hx6
  have hn6 : ts6.length < N := Nat.lt_of_le_of_lt (le_need (Nat.le_refl _) _ _ hx6) hn5
  obtain ⟨rfl, HR6, HK6⟩ := HD.yes hx6
  clear hx6 HD
  have ht6 := HK6.out.size
  have HV5_6 := hid ((show Vr _ w5.heap.size w4.heap.size y5 a5 l5 c5 by repeat (with_reducible (first | exact HV5.out | apply Vr.drew))).kp HK6.out (by omega) (by omega))
  have HBn_6 := hid ((show Blk _ w1.heap.size [_, _, _, _, _] by repeat (with_reducible (first | exact HBn_5.out | apply Blk.drew))).kp HK6.out (by omega))
  have HRS6 := hid ((show Blk _ w.heap.size [_, _, _, _, _] by repeat (with_reducible (first | exact HRS5.out | apply Blk.drew))).kp HK6.out (by omega))
  have HKA6 := hid ((show Kp b w _ by repeat (with_reducible (first | exact HKA5.out | apply Kp.drew))).trans HK6.out)
  obtain ⟨⟨q5_0, q5_1, q5_2, q5_3, q5_4⟩, q5_5, q5_6, q5_7, q5_8, q5_9⟩ := blk5 HV5_6.out.cells
  obtain ⟨⟨b6_0, b6_1, b6_2, b6_3, b6_4⟩, b6_5, b6_6, b6_7, b6_8, b6_9⟩ := blk5 HBn_6.out
  obtain ⟨⟨u7_0, u7_1, u7_2, u7_3, u7_4⟩, u7_5, u7_6, u7_7, u7_8, u7_9⟩ := blk5 HRS6.out
  go_wp2_with fail
  rcases hx7 : T ts6 with f7 | ⟨y7, ts7⟩
  ·skip
   refine wp_region_held_drew (S := (fun w' => w'.cell? ⟨w5.heap.size, 0, none⟩ = some (.int .i64 y5.kind) ∧ w'.cell? ⟨w5.heap.size, 1, none⟩ = some (.int .i64 y5.pos) ∧ w'.cell? ⟨w5.heap.size, 2, none⟩ = some (.string ⟨y5.name.toArray⟩) ∧ w'.cell? ⟨w5.heap.size, 3, none⟩ = some (.int .i64 y5.num) ∧ w'.cell? ⟨w5.heap.size, 4, none⟩ = some (.slice a5 l5 c5))) (by kernel_rfl) (by first | trivial | (dsimp only; go_keep)) (fun hHeld => ?_)
   refine wpAnyH_take (i := 0) (v := ?vv0_1) rfl (by kernel_rfl) (by kernel_rfl) (by kernel_rfl) (fun _ _ _ h => h) (Or.inl ⟨by rfl, ?yy0_1⟩) (by assumption) ?rr0_1
   case yy0_1 => (intro w hSw; (try dsimp only at hSw); go_simp; (try with_reducible rfl))
   try simp only [Act.put, List.setIfInBounds_toArray, List.set_cons_zero, List.set_cons_succ]
   refine wpAnyH_take (i := 1) (v := ?vv1_1) rfl (by kernel_rfl) (by kernel_rfl) (by kernel_rfl) (fun _ _ _ h => h) (Or.inl ⟨by rfl, ?yy1_1⟩) (by assumption) ?rr1_1
   case yy1_1 => (intro w hSw; (try dsimp only at hSw); go_simp; (try with_reducible rfl))
   try simp only [Act.put, List.setIfInBounds_toArray, List.set_cons_zero, List.set_cons_succ]
   refine wpAnyH_ready (rs := [2]) (by kernel_rfl) (by simp) (AllReadyH.cons rfl (fun K hK => ?_) AllReadyH.nil)
   go_simp
   refine (hT.calls _ b ts6 (by repeat (with_reducible (first | exact HR6.out | apply Dr.drew))) hn6).mono ?_
   intro en w7 HD
   obtain ⟨rfl, HK7⟩ := HD.no hx7
   have HKE := hid ((show Kp b w _ by repeat (with_reducible (first | exact HKA6.out | apply Kp.drew))).trans HK7.out)
   exact ⟨rfl, DRes.err (by rw [hF]; simp [Sy.iteB_takes, Sy.bnd, H2.out, H3.out, H4.out, H5.out, H6.out, hx7]) HKE.out⟩
  have H7 := hid hx7
  clear hx7
  have hnv : ¬ w5.heap.size = w1.heap.size := by omega
  have hnv2 : ¬ w1.heap.size = w5.heap.size := by omega
  go_region_held3 (fun w' => w'.cell? ⟨w5.heap.size, 0, none⟩ = some (.int .i64 y5.kind) ∧ w'.cell? ⟨w5.heap.size, 1, none⟩ = some (.int .i64 y5.pos) ∧ w'.cell? ⟨w5.heap.size, 2, none⟩ = some (.string ⟨y5.name.toArray⟩) ∧ w'.cell? ⟨w5.heap.size, 3, none⟩ = some (.int .i64 y5.num) ∧ w'.cell? ⟨w5.heap.size, 4, none⟩ = some (.slice a5 l5 c5)) (go_keep) (first
   | (go_at_call 63; refine (hT.calls _ b ts6 (by repeat (with_reducible (first | exact HR6.out | apply Dr.drew))) hn6).mono ?_; intro en w7 HD; obtain ⟨a7, l7, c7, rfl, HKd7, HR7, HK7⟩ := HD.yes H7.out; have ht7 := HK7.out.size; (try simp at ht7); have HV5_7 := hid ((show Vr _ w5.heap.size w4.heap.size y5 a5 l5 c5 by repeat (with_reducible (first | exact HV5_6.out | apply Vr.drew))).kp HK7.out (by omega) (by omega)); obtain ⟨⟨q8_0, q8_1, q8_2, q8_3, q8_4⟩, q8_5, q8_6, q8_7, q8_8, q8_9⟩ := blk5 HV5_7.out.cells; have HBn_7 := hid ((show Blk _ w1.heap.size [_, _, _, _, _] by repeat (with_reducible (first | exact HBn_6.out | apply Blk.drew))).kp HK7.out (by omega)); have HRS7 := hid ((show Blk _ w.heap.size [_, _, _, _, _] by repeat (with_reducible (first | exact HRS6.out | apply Blk.drew))).kp HK7.out (by omega)); have HKA7 := hid ((show Kp b w _ by repeat (with_reducible (first | exact HKA6.out | apply Kp.drew))).trans HK7.out); obtain ⟨⟨u9_0, u9_1, u9_2, u9_3, u9_4⟩, u9_5, u9_6, u9_7, u9_8, u9_9⟩ := blk5 HRS7.out; have hlw7 : w.heap.size < w7.heap.size := Blk.lt HRS7.out; have hlv5_7 : w5.heap.size < w7.heap.size := Blk.lt HV5_7.out.cells; have HY7 : Hid (Kids w7 (fun g => w6.heap.size ≤ g) (.slice a7 l7 c7) y7.kids) := HKd7.out.weak (fun g hg _ => by (try simp at hg); omega); obtain ⟨⟨s0, s1, s2, s3, s4⟩, s5, s6, s7, s8, s9⟩ := blk5 HBn_7.out; have hlA : w1.heap.size < w7.heap.size := Blk.lt HBn_7.out))
  all_goals
   obtain ⟨⟨z0, z1, z2, z3, z4⟩, z5, z6, z7, z8, z9⟩ := blk5 HRS7.out
   go_wp2_with fail
   refine bodyPost_ret (v := .agg #[.int .i64 1, .int .i64 t0.pos, .string ⟨t3.text.toArray⟩, .int .i64 1, .slice (some ⟨w7.heap.size, 0, none⟩) 2 2]) (by simp [results, Tryz.results31, go_sem, z0, z1, z2, z3, z4, hneA, hneB, hlA, hlw7]) rfl ?_
   exact dres_finl (lo := W1.heap.size) (W := w7.setCell ⟨w1.heap.size, 4, none⟩ (.slice (some ⟨w7.heap.size, 0, none⟩) 2 2)) (.mk 1 t0.pos t3.text 1 [y5, y7]) ts7 [(y5, .slice a5 l5 c5), (y7, .slice a7 l7 c7)] (by simp) (by intro p hp; simp only [List.mem_cons, List.not_mem_nil, or_false] at hp; rcases hp with rfl | rfl <;> first | exact ((HV5_7.out.kids.free (hi := W1.heap.size) (by omega)).carry (fun g hg _ => Below.heap_setCell _ _ _ _ (show g ≠ w1.heap.size by omega)) (fun g hg _ => hg)) | exact ((HY7.out.weak (F' := fun g => W1.heap.size ≤ g) (fun g hg _ => Nat.le_trans (by omega) hg)).carry (fun g hg _ => Below.heap_setCell _ _ _ _ (show g ≠ w1.heap.size by omega)) (fun g hg _ => hg))) rfl (HR7.out.other (by omega) _ _) (HKA7.out.other (by omega) _ _) (by rw [hF]; simp [Sy.iteB_takes, Sy.bnd, H2.out, H3.out, H4.out, H5.out, H6.out, H7.out]) (by omega) (by simp; omega) (by omega) (by omega) _ rfl 2 rfl _ _ _ _ _ rfl rfl rfl rfl _ _ _ _ _ _ (by simp)
 | false =>
  go_wp2_with fail
  refine (dneed _ b z ts2 e d Sy.w_many (by decide) (by repeat (with_reducible (first | exact HR2.out | apply Dr.drew)))).mono ?_
  intro en w3 HD
  rcases hx3 : Sy.needB z Sy.w_many ts2 with f3 | ⟨u3, ts3⟩
  ·obtain ⟨rfl, HK3⟩ := HD.no hx3
   have HKE := hid ((show Kp b w _ by repeat (with_reducible (first | exact HKA2.out | apply Kp.drew))).trans HK3.out)
   go_wp2_with fail
   exact ⟨rfl, DRes.err (by rw [hF]; simp [Sy.iteB_takes, Sy.bnd, H2.out, hx3]) HKE.out⟩
  have H3 := hid hx3
  have hn3 : ts3.length < N := Nat.lt_of_le_of_lt (le_need (Nat.le_refl _) _ _ hx3) hn2
  obtain ⟨rfl, HR3, HK3⟩ := HD.yes hx3
  clear hx3 HD
  have ht3 := HK3.out.size
  have HBn_3 := hid ((show Blk _ w1.heap.size [_, _, _, _, _] by repeat (with_reducible (first | exact HBn_2.out | apply Blk.drew))).kp HK3.out (by omega))
  have HRS3 := hid ((show Blk _ w.heap.size [_, _, _, _, _] by repeat (with_reducible (first | exact HRS2.out | apply Blk.drew))).kp HK3.out (by omega))
  have HKA3 := hid ((show Kp b w _ by repeat (with_reducible (first | exact HKA2.out | apply Kp.drew))).trans HK3.out)
  go_wp2_with fail
  refine (dname _ b z ts3 e d (by repeat (with_reducible (first | exact HR3.out | apply Dr.drew)))).mono ?_
  intro en w4 HD
  rcases hx4 : Sy.kindB z 2 ts3 with f4 | ⟨t4, ts4⟩
  ·obtain ⟨rfl, HK4⟩ := HD.no hx4
   have HKE := hid ((show Kp b w _ by repeat (with_reducible (first | exact HKA3.out | apply Kp.drew))).trans HK4.out)
   go_wp2_with fail
   exact ⟨rfl, DRes.err (by rw [hF]; simp [Sy.iteB_takes, Sy.bnd, H2.out, H3.out, hx4]) HKE.out⟩
  have H4 := hid hx4
  have hn4 : ts4.length < N := Nat.lt_of_le_of_lt (le_kind (Nat.le_refl _) _ _ hx4) hn3
  obtain ⟨rfl, HR4, HK4⟩ := HD.yes hx4
  dsimp only [tkV]
  clear hx4 HD
  have ht4 := HK4.out.size
  have HBn_4 := hid ((show Blk _ w1.heap.size [_, _, _, _, _] by repeat (with_reducible (first | exact HBn_3.out | apply Blk.drew))).kp HK4.out (by omega))
  have HRS4 := hid ((show Blk _ w.heap.size [_, _, _, _, _] by repeat (with_reducible (first | exact HRS3.out | apply Blk.drew))).kp HK4.out (by omega))
  have HKA4 := hid ((show Kp b w _ by repeat (with_reducible (first | exact HKA3.out | apply Kp.drew))).trans HK4.out)
  obtain ⟨hf4_0, hf4_1, hf4_2, hf4_3⟩ := fld_tk (.int .i64 t4.kind) (.int .i64 t4.pos) (.string ⟨t4.text.toArray⟩) (.int .i64 t4.num)
  obtain ⟨⟨b1_0, b1_1, b1_2, b1_3, b1_4⟩, b1_5, b1_6, b1_7, b1_8, b1_9⟩ := blk5 HBn_4.out
  obtain ⟨j2, hj2, HBj2, HRj2, HKj2, HSj2, hzj2⟩ := jset HBn_4.out HR4.out HKA4.out HRS4.out (by omega) (by omega) (by omega) 2 (by decide) (.string ⟨t4.text.toArray⟩)
  have Hj2 := hid hj2
  clear hj2
  have HBsj2 : Hid (Blk j2 w1.heap.size [.int .i64 1, .int .i64 t0.pos, .string ⟨t4.text.toArray⟩, .int .i64 0, .slice none 0 0]) := HBj2
  go_wp2_with fail
  rw [Hj2.out]
  refine (dneed _ b z ts4 e d Sy.s_colon (by decide) (by repeat (with_reducible (first | exact HRj2.out | apply Dr.drew)))).mono ?_
  intro en w5 HD
  rcases hx5 : Sy.needB z Sy.s_colon ts4 with f5 | ⟨u5, ts5⟩
  ·obtain ⟨rfl, HK5⟩ := HD.no hx5
   have HKE := hid ((show Kp b w _ by repeat (with_reducible (first | exact HKj2.out | apply Kp.drew))).trans HK5.out)
   go_wp2_with fail
   exact ⟨rfl, DRes.err (by rw [hF]; simp [Sy.iteB_takes, Sy.bnd, H2.out, H3.out, H4.out, hx5]) HKE.out⟩
  have H5 := hid hx5
  have hn5 : ts5.length < N := Nat.lt_of_le_of_lt (le_need (Nat.le_refl _) _ _ hx5) hn4
  obtain ⟨rfl, HR5, HK5⟩ := HD.yes hx5
  clear hx5 HD
  have ht5 := HK5.out.size
  have HBn_5 := hid ((show Blk _ w1.heap.size [_, _, _, _, _] by repeat (with_reducible (first | exact HBsj2.out | apply Blk.drew))).kp HK5.out (by omega))
  have HRS5 := hid ((show Blk _ w.heap.size [_, _, _, _, _] by repeat (with_reducible (first | exact HSj2.out | apply Blk.drew))).kp HK5.out (by omega))
  have HKA5 := hid ((show Kp b w _ by repeat (with_reducible (first | exact HKj2.out | apply Kp.drew))).trans HK5.out)
  go_wp2_with fail
  refine (hT.calls _ b ts5 (by repeat (with_reducible (first | exact HR5.out | apply Dr.drew))) hn5).mono ?_
  intro en w6 HD
  rcases hx6 : T ts5 with f6 | ⟨y6, ts6⟩
  ·obtain ⟨rfl, HK6⟩ := HD.no hx6
   have HKE := hid ((show Kp b w _ by repeat (with_reducible (first | exact HKA5.out | apply Kp.drew))).trans HK6.out)
   go_wp2_with fail
   exact ⟨rfl, DRes.err (by rw [hF]; simp [Sy.iteB_takes, Sy.bnd, H2.out, H3.out, H4.out, H5.out, hx6]) HKE.out⟩
  have H6 := hid hx6
  have hn6 : ts6.length < N := Nat.lt_of_le_of_lt (hT.le _ _ (Nat.le_refl _) _ _ hx6) hn5
  obtain ⟨a6, l6, c6, rfl, HKd6, HR6, HK6⟩ := HD.yes hx6
  clear hx6 HD
  obtain ⟨W6, hW6, HV6, HRd6, HKp6, hs6, ht6⟩ := jvar_new HKd6.out HR6.out HK6.out 24
  have HBn_6 := hid ((show Blk _ w1.heap.size [_, _, _, _, _] by repeat (with_reducible (first | exact HBn_5.out | apply Blk.drew))).kp HKp6.out (by omega))
  have HRS6 := hid ((show Blk _ w.heap.size [_, _, _, _, _] by repeat (with_reducible (first | exact HRS5.out | apply Blk.drew))).kp HKp6.out (by omega))
  have HKA6 := hid ((show Kp b w _ by repeat (with_reducible (first | exact HKA5.out | apply Kp.drew))).trans HKp6.out)
  have hne6 : ¬ w6.heap.size = w.heap.size := by omega
  have hno6 : ¬ w.heap.size = w6.heap.size := by omega
  go_wp2_with fail
  try rw [hW6]
  clear hW6
  refine (dneed _ b z ts6 e d Sy.s_to (by decide) (by repeat (with_reducible (first | exact HRd6.out | apply Dr.drew)))).mono ?_
  intro en w7 HD
  rcases hx7 : Sy.needB z Sy.s_to ts6 with f7 | ⟨u7, ts7⟩
  ·obtain ⟨rfl, HK7⟩ := HD.no hx7
   have HKE := hid ((show Kp b w _ by repeat (with_reducible (first | exact HKA6.out | apply Kp.drew))).trans HK7.out)
   go_wp2_with fail
   exact ⟨rfl, DRes.err (by rw [hF]; simp [Sy.iteB_takes, Sy.bnd, H2.out, H3.out, H4.out, H5.out, H6.out, hx7]) HKE.out⟩
  have H7 := hid hx7
  have hn7 : ts7.length < N := Nat.lt_of_le_of_lt (le_need (Nat.le_refl _) _ _ hx7) hn6
  obtain ⟨rfl, HR7, HK7⟩ := HD.yes hx7
  clear hx7 HD
  have ht7 := HK7.out.size
  have HV6_7 := hid ((show Vr _ w6.heap.size w5.heap.size y6 a6 l6 c6 by repeat (with_reducible (first | exact HV6.out | apply Vr.drew))).kp HK7.out (by omega) (by omega))
  have HBn_7 := hid ((show Blk _ w1.heap.size [_, _, _, _, _] by repeat (with_reducible (first | exact HBn_6.out | apply Blk.drew))).kp HK7.out (by omega))
  have HRS7 := hid ((show Blk _ w.heap.size [_, _, _, _, _] by repeat (with_reducible (first | exact HRS6.out | apply Blk.drew))).kp HK7.out (by omega))
  have HKA7 := hid ((show Kp b w _ by repeat (with_reducible (first | exact HKA6.out | apply Kp.drew))).trans HK7.out)
  obtain ⟨⟨q3_0, q3_1, q3_2, q3_3, q3_4⟩, q3_5, q3_6, q3_7, q3_8, q3_9⟩ := blk5 HV6_7.out.cells
  obtain ⟨⟨b4_0, b4_1, b4_2, b4_3, b4_4⟩, b4_5, b4_6, b4_7, b4_8, b4_9⟩ := blk5 HBn_7.out
  obtain ⟨⟨u5_0, u5_1, u5_2, u5_3, u5_4⟩, u5_5, u5_6, u5_7, u5_8, u5_9⟩ := blk5 HRS7.out
  go_wp2_with fail
  rcases hx8 : T ts7 with f8 | ⟨y8, ts8⟩
  ·skip
   refine wp_region_held_drew (S := (fun w' => w'.cell? ⟨w6.heap.size, 0, none⟩ = some (.int .i64 y6.kind) ∧ w'.cell? ⟨w6.heap.size, 1, none⟩ = some (.int .i64 y6.pos) ∧ w'.cell? ⟨w6.heap.size, 2, none⟩ = some (.string ⟨y6.name.toArray⟩) ∧ w'.cell? ⟨w6.heap.size, 3, none⟩ = some (.int .i64 y6.num) ∧ w'.cell? ⟨w6.heap.size, 4, none⟩ = some (.slice a6 l6 c6))) (by kernel_rfl) (by first | trivial | (dsimp only; go_keep)) (fun hHeld => ?_)
   refine wpAnyH_take (i := 0) (v := ?vv0_2) rfl (by kernel_rfl) (by kernel_rfl) (by kernel_rfl) (fun _ _ _ h => h) (Or.inl ⟨by rfl, ?yy0_2⟩) (by assumption) ?rr0_2
   case yy0_2 => (intro w hSw; (try dsimp only at hSw); go_simp; (try with_reducible rfl))
   try simp only [Act.put, List.setIfInBounds_toArray, List.set_cons_zero, List.set_cons_succ]
   refine wpAnyH_take (i := 1) (v := ?vv1_2) rfl (by kernel_rfl) (by kernel_rfl) (by kernel_rfl) (fun _ _ _ h => h) (Or.inl ⟨by rfl, ?yy1_2⟩) (by assumption) ?rr1_2
   case yy1_2 => (intro w hSw; (try dsimp only at hSw); go_simp; (try with_reducible rfl))
   try simp only [Act.put, List.setIfInBounds_toArray, List.set_cons_zero, List.set_cons_succ]
   refine wpAnyH_ready (rs := [2]) (by kernel_rfl) (by simp) (AllReadyH.cons rfl (fun K hK => ?_) AllReadyH.nil)
   go_simp
   refine (hT.calls _ b ts7 (by repeat (with_reducible (first | exact HR7.out | apply Dr.drew))) hn7).mono ?_
   intro en w8 HD
   obtain ⟨rfl, HK8⟩ := HD.no hx8
   have HKE := hid ((show Kp b w _ by repeat (with_reducible (first | exact HKA7.out | apply Kp.drew))).trans HK8.out)
   exact ⟨rfl, DRes.err (by rw [hF]; simp [Sy.iteB_takes, Sy.bnd, H2.out, H3.out, H4.out, H5.out, H6.out, H7.out, hx8]) HKE.out⟩
  have H8 := hid hx8
  clear hx8
  have hnv : ¬ w6.heap.size = w1.heap.size := by omega
  have hnv2 : ¬ w1.heap.size = w6.heap.size := by omega
  go_region_held3 (fun w' => w'.cell? ⟨w6.heap.size, 0, none⟩ = some (.int .i64 y6.kind) ∧ w'.cell? ⟨w6.heap.size, 1, none⟩ = some (.int .i64 y6.pos) ∧ w'.cell? ⟨w6.heap.size, 2, none⟩ = some (.string ⟨y6.name.toArray⟩) ∧ w'.cell? ⟨w6.heap.size, 3, none⟩ = some (.int .i64 y6.num) ∧ w'.cell? ⟨w6.heap.size, 4, none⟩ = some (.slice a6 l6 c6)) (go_keep) (first
   | (go_at_call 63; refine (hT.calls _ b ts7 (by repeat (with_reducible (first | exact HR7.out | apply Dr.drew))) hn7).mono ?_; intro en w8 HD; obtain ⟨a8, l8, c8, rfl, HKd8, HR8, HK8⟩ := HD.yes H8.out; have ht8 := HK8.out.size; (try simp at ht8); have HV6_8 := hid ((show Vr _ w6.heap.size w5.heap.size y6 a6 l6 c6 by repeat (with_reducible (first | exact HV6_7.out | apply Vr.drew))).kp HK8.out (by omega) (by omega)); obtain ⟨⟨q6_0, q6_1, q6_2, q6_3, q6_4⟩, q6_5, q6_6, q6_7, q6_8, q6_9⟩ := blk5 HV6_8.out.cells; have HBn_8 := hid ((show Blk _ w1.heap.size [_, _, _, _, _] by repeat (with_reducible (first | exact HBn_7.out | apply Blk.drew))).kp HK8.out (by omega)); have HRS8 := hid ((show Blk _ w.heap.size [_, _, _, _, _] by repeat (with_reducible (first | exact HRS7.out | apply Blk.drew))).kp HK8.out (by omega)); have HKA8 := hid ((show Kp b w _ by repeat (with_reducible (first | exact HKA7.out | apply Kp.drew))).trans HK8.out); obtain ⟨⟨u7_0, u7_1, u7_2, u7_3, u7_4⟩, u7_5, u7_6, u7_7, u7_8, u7_9⟩ := blk5 HRS8.out; have hlw8 : w.heap.size < w8.heap.size := Blk.lt HRS8.out; have hlv6_8 : w6.heap.size < w8.heap.size := Blk.lt HV6_8.out.cells; have HY8 : Hid (Kids w8 (fun g => w7.heap.size ≤ g) (.slice a8 l8 c8) y8.kids) := HKd8.out.weak (fun g hg _ => by (try simp at hg); omega); obtain ⟨⟨s0, s1, s2, s3, s4⟩, s5, s6, s7, s8, s9⟩ := blk5 HBn_8.out; have hlA : w1.heap.size < w8.heap.size := Blk.lt HBn_8.out))
  all_goals
   obtain ⟨⟨z0, z1, z2, z3, z4⟩, z5, z6, z7, z8, z9⟩ := blk5 HRS8.out
   go_wp2_with fail
   refine bodyPost_ret (v := .agg #[.int .i64 1, .int .i64 t0.pos, .string ⟨t4.text.toArray⟩, .int .i64 0, .slice (some ⟨w8.heap.size, 0, none⟩) 2 2]) (by simp [results, Tryz.results31, go_sem, z0, z1, z2, z3, z4, hneA, hneB, hlA, hlw8]) rfl ?_
   exact dres_finl (lo := W1.heap.size) (W := w8.setCell ⟨w1.heap.size, 4, none⟩ (.slice (some ⟨w8.heap.size, 0, none⟩) 2 2)) (.mk 1 t0.pos t4.text 0 [y6, y8]) ts8 [(y6, .slice a6 l6 c6), (y8, .slice a8 l8 c8)] (by simp) (by intro p hp; simp only [List.mem_cons, List.not_mem_nil, or_false] at hp; rcases hp with rfl | rfl <;> first | exact ((HV6_8.out.kids.free (hi := W1.heap.size) (by omega)).carry (fun g hg _ => Below.heap_setCell _ _ _ _ (show g ≠ w1.heap.size by omega)) (fun g hg _ => hg)) | exact ((HY8.out.weak (F' := fun g => W1.heap.size ≤ g) (fun g hg _ => Nat.le_trans (by omega) hg)).carry (fun g hg _ => Below.heap_setCell _ _ _ _ (show g ≠ w1.heap.size by omega)) (fun g hg _ => hg))) rfl (HR8.out.other (by omega) _ _) (HKA8.out.other (by omega) _ _) (by rw [hF]; simp [Sy.iteB_takes, Sy.bnd, H2.out, H3.out, H4.out, H5.out, H6.out, H7.out, H8.out]) (by omega) (by simp; omega) (by omega) (by omega) _ rfl 2 rfl _ _ _ _ _ rfl rfl rfl rfl _ _ _ _ _ _ (by simp)

open Go.RowKit

def PgRes (w : World) (b : Nat) (x : Sy.R Sy.Tr) (en : Ending) (w' : World) : Prop :=
 match x with
 | .ok (T, _) => ∃ a l c, en = .returned (.agg #[.int .i64 T.kind, .int .i64 T.pos, .string ⟨T.name.toArray⟩, .int .i64 T.num, .slice a l c]) ∧ Hid (Kids w' (fun g => w.heap.size ≤ g) (.slice a l c) T.kids) ∧ Hid (Kp b w w')
 | .error f => Refuses f en ∧ Hid (Kp b w w')
theorem PgRes.err {w : World} {b : Nat} {x : Sy.R Sy.Tr} {w' : World} {f : Nat × Nat} (hx : x = .error f) (h2 : Kp b w w') : PgRes w b x (.panicked [{ v := refV f, recovered := false }]) w' := by subst hx; exact ⟨rfl, h2⟩
theorem Hw.num {w W : World} {b A R lo e d : Nat} {z : Sy.Env} {ts : List Lx.Tk} {k p nn : Int} {x : ByteArray} {v : Value} {ls : List (Sy.Tr × Value)} (h : Hw w b A R lo z ts e d k p nn x v ls W) (hA : A < lo) (hb : b < A) (hw : w.heap.size ≤ A) (hRA : R ≠ A) (n2 : Int) : Hw w b A R lo z ts e d k p n2 x v ls (W.setCell ⟨A, 3, none⟩ (.int .i64 n2)) := by
 obtain ⟨h4, h5, ⟨r0, r1, r2, r3, r4, h7⟩, h8, h9, h10⟩ := h
 have h4' := h4.set 3 (by simp) (.int .i64 n2)
 exact ⟨h4', h5.set hA 3, ⟨r0, r1, r2, r3, r4, h7.other hRA _ _⟩, h8.other hb _ _, h9.other hw _ _, by simp; omega⟩
theorem ddef (N e d : Nat) (hN : N ≤ 90000) (z : Sy.Env) (E : List Lx.Tk → Sy.R Sy.Tr) (hE : EOK N e d z E) (w : World) (b : Nat) (t0 : Lx.Tk) (tl : List Lx.Tk) (h : Dr w b z (t0 :: tl) e d) (hn : (t0 :: tl).length < N) :
  Calls Tryz.prog 32 #[.pointer (some ⟨b, 0, none⟩), .int .i64 2] w fun en w' => DRes w b z (Sy.bnd (Sy.bindB z N E 1 tl) fun q ts => .ok (.mk 2 t0.pos q.2.1 q.1 [q.2.2], ts)) e d en w' := by
 refine (dbindDef N e d hN z E hE w b t0 tl h hn).mono ?_
 intro en w1 HD
 rcases hx : Sy.bindB z N E 1 tl with f | ⟨q, us⟩
 ·obtain ⟨rfl, HK⟩ := HD.no hx
  exact ⟨rfl, HK⟩
 ·obtain ⟨g, lo, kv, rfl, hlo, HROW, HR, HK⟩ := HD.yes hx
  have hk := HROW.out.kidsOf (by simp) (by simp)
  exact ⟨_, _, _, rfl, hk.weak (fun q hq _ => Nat.le_trans hlo hq), HR, HK⟩

theorem dtake_end (w : World) (b : Nat) (z : Sy.Env) (e d : Nat) (hz : z.fin.1 = 0) (h : Dr w b z [] e d) :
  Calls Tryz.prog 60 #[.pointer (some ⟨b, 0, none⟩)] w fun en w' => en = .returned (tkV (Sy.endTk z)) ∧ Hid (Kp b w w') := by
 have H := hid h
 have hlt := h.lt
 have hnr : ¬ w.heap.size = b := by omega
 clear h
 go_enter Tryz.func60, Tryz.ntmps60
 go_wp2_with (go_at_call 59; refine (dlook _ b z [] e d (H.out.alloc _)).mono ?_; intro en w1 HD; obtain ⟨rfl, HR, HK⟩ := HD.yes (a := Sy.endTk z) (ts := []) (by simp [Sy.lookB, hz]); dsimp only [tkV]; have hzz := HK.out.size; simp [Nat.add_one_le_iff] at hzz; obtain ⟨hg, g, n, c, i, hb, hne, hn, hc, hn3, ht, he⟩ := HR.out; have b1 := hb 1 _ rfl; have hn1 : ¬ b = w1.heap.size := (by omega); have HBK := hid ((Blk.new _ [_, _, _, _] _).kp HK.out (by omega)); obtain ⟨q0, q1, q2, q3, q4, q5, q6, q7⟩ := blk4 HBK.out; have hn5 : ¬ w.heap.size = w1.heap.size := (by omega); have hl1 : b < w1.heap.size := (by omega); clear hb ht he hg)
 generalize Sy.endTk z = t at *
 refine bodyPost_ret (v := tkV t) (by simp [results, Tryz.results60, go_sem, tkV, q0, q1, q2, q3, hzz]) rfl ⟨rfl, hid ?_⟩
 have HKW : Kp b w w1 := Kp.trans ((Kp.refl b w).alloc _) HK.out
 exact (((((HKW.set 1 _).other (Nat.le_refl _) _ _).other (Nat.le_refl _) _ _).other (Nat.le_refl _) _ _).other (Nat.le_refl _) _ _).alloc _
theorem dneedEnd (w : World) (b : Nat) (z : Sy.Env) (ts : List Lx.Tk) (e d : Nat) (h : Dr w b z ts e d) :
  Calls Tryz.prog 35 #[.pointer (some ⟨b, 0, none⟩), .int .i64 0] w fun en w' => (match Sy.kindB z 0 ts with | .ok (t, _) => en = .returned (tkV t) | .error f => en = .panicked [{ v := refV f, recovered := false }]) ∧ Hid (Kp b w w') := by
 have H := hid h
 clear h
 rcases hl : Sy.lookB z ts with f | ⟨t, us⟩
 ·have HX : Hid (Sy.kindB z 0 ts = .error f) := by simp [Hid, Sy.kindB, Sy.bnd, hl]
  have HL := hid hl
  clear hl
  rw [HX.out]
  go_enter Tryz.func35, Tryz.ntmps35
  go_wp2_with (go_at_call 59; refine (dlook _ b z ts e d (H.out.alloc _)).mono ?_; intro en w1 HD; obtain ⟨rfl, HK⟩ := HD.no HL.out)
  exact ⟨rfl, rfl, hid (Kp.trans ((Kp.refl b w).alloc _) HK.out)⟩
 ·obtain ⟨hf0, hf1, hf2, hf3⟩ := fld_tk (.int .i64 t.kind) (.int .i64 t.pos) (.string ⟨t.text.toArray⟩) (.int .i64 t.num)
  have hus := (look_ok hl).1
  subst hus
  by_cases hv : t.kind = 0
  ·have hts : us = [] := by
    cases us with
    | nil => rfl
    | cons a r =>
     have h2 := (look_ok hl).2
     simp only [List.headD_cons] at h2
     exact absurd (h2 ▸ hv) (gd_kind (H.out.good a (by simp)).1)
   subst hts
   have hz : z.fin.1 = 0 := by
    by_cases hz : z.fin.1 = 0
    ·exact hz
    ·simp [Sy.lookB, hz] at hl
   have hte : t = Sy.endTk z := (look_ok hl).2
   have HX : Hid (Sy.kindB z 0 [] = .ok (t, [])) := by simp [Hid, Sy.kindB, Sy.bnd, hl, hv]
   have hvb : ((t.kind : Int) != 0) = false := by simp [hv]
   have HL := hid hl
   have HTE := hid hte
   have hne := H.out.lt
   rw [HX.out]
   clear hl hv hte
   go_enter Tryz.func35, Tryz.ntmps35
   go_wp2_with (first
    | (go_at_call 59; refine (dlook _ b z [] e d (H.out.alloc _)).mono ?_; intro en w1 HD; obtain ⟨rfl, HR, HK⟩ := HD.yes HL.out; dsimp only [tkV]; have HBK := hid ((Blk.new _ [_, _, _, _] _).kp HK.out (by omega)))
    | (go_at_call 60; refine (dtake_end _ b z e d hz HR.out).mono ?_; rintro en w2 ⟨rfl, HK2⟩; rw [← HTE.out]; dsimp only [tkV]; obtain ⟨q0, q1, q2, q3, q4, q5, q6, q7⟩ := blk4 (HBK.out.kp HK2.out (by omega))))
   refine bodyPost_ret (v := tkV t) (by simp [results, Tryz.results35, go_sem, tkV, q0, q1, q2, q3]) rfl ⟨rfl, hid ?_⟩
   have HKW : Kp b w w2 := Kp.trans (Kp.trans ((Kp.refl b w).alloc _) HK.out) HK2.out
   exact (((HKW.other (Nat.le_refl _) _ _).other (Nat.le_refl _) _ _).other (Nat.le_refl _) _ _).other (Nat.le_refl _) _ _
  ·have HX : Hid (Sy.kindB z 0 us = .error (4, t.pos)) := by simp [Hid, Sy.kindB, Sy.bnd, hl, hv]
   have HW : Hid (Sy.wrongF z us = (4, t.pos)) := by simp [Hid, Sy.wrongF, hl]
   have hvb : ((t.kind : Int) != 0) = true := by simp; omega
   have HL := hid hl
   rw [HX.out]
   clear hl hv
   go_enter Tryz.func35, Tryz.ntmps35
   go_wp2_with (first
    | (go_at_call 59; refine (dlook _ b z us e d (H.out.alloc _)).mono ?_; intro en w1 HD; obtain ⟨rfl, HR, HK⟩ := HD.yes HL.out; dsimp only [tkV])
    | (go_at_call 66; refine (dwrong _ b z us e d HR.out).mono ?_; rintro en w2 ⟨rfl, HK2⟩; rw [HW.out]))
   exact ⟨rfl, rfl, hid (Kp.trans (Kp.trans ((Kp.refl b w).alloc _) HK.out) HK2.out)⟩
end Go.Proofs.YtoajnlhegallpaaGreatDoor
