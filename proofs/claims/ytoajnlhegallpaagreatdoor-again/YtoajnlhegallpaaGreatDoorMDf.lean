/-
  What the program's rules do: pairType, cons, comparison.
-/
import Derived.Test.YtoajnlhegallpaaGreatDoorMDl
set_option linter.unusedVariables false
set_option linter.unusedSimpArgs false
set_option maxRecDepth 100000
set_option maxHeartbeats 4000000
namespace Go.Proofs.YtoajnlhegallpaaGreatDoor
open Go.RowKit

theorem text_ne {t : Lx.Tk} {x : List UInt8} (h : (t.text == x) = true) (hx : x ≠ []) : t.text ≠ [] := by
 have : t.text = x := by simpa using h
 rw [this]; exact hx

theorem dpairType (N e d : Nat) (z : Sy.Env) (T : List Lx.Tk → Sy.R Sy.Tr) (hT : ∀ (n : Nat) (ts : List Lx.Tk), ts.length ≤ n → LeB n (T ts)) (hC : ROK 130 N e d z (Sy.someB z N T)) : ∀ (n : Nat) (w : World) (b : Nat) (ts : List Lx.Tk), Dr w b z ts e d → ts.length < N → ts.length < n → Calls Tryz.prog 100 #[.pointer (some ⟨b, 0, none⟩)] w fun en w' => DRes w b z (Sy.pairB z N T n ts) e d en w' := by
 intro n
 induction n with
 | zero => intro w b ts _ _ h; omega
 | succ n ih =>
  intro w b ts h hn hm
  have IH := hid ih
  have H := hid h
  have hbR : b < w.heap.size := h.lt
  clear h ih
  go_enter Tryz.func100, Tryz.ntmps100
  go_wp2_with fail
  obtain ⟨W0, hW0, HI⟩ := jn1 H.out 24
  rw [hW0]
  clear hW0
  have hz0 := HI.out.size
  refine (hC _ b ts (by repeat (with_reducible (first | exact HI.out.rd | apply Dr.drew))) hn).mono ?_
  intro en w1 HD
  rcases hx1 : Sy.someB z N T ts with f1 | ⟨y1, ts1⟩
  ·obtain ⟨rfl, HK1⟩ := HD.no hx1
   have HKE := hid ((show Kp b w _ by repeat (with_reducible (first | exact HI.out.kp | apply Kp.drew))).trans HK1.out)
   go_wp2_with fail
   exact ⟨rfl, DRes.err (by simp [Sy.pairB, Sy.iteB_takes, Sy.bnd, hx1]) HKE.out⟩
  have H1 := hid hx1
  have hn1 : ts1.length < N := Nat.lt_of_le_of_lt (le_some (fun ts h => hT _ ts h) _ (Nat.le_refl _) _ _ hx1) hn
  obtain ⟨a1, l1, c1, rfl, HKd1, HR1, HK1⟩ := HD.yes hx1
  clear hx1 HD
  obtain ⟨W1, hW1, HV1, HRd1, HKp1, hs1, ht1⟩ := jvar_new HKd1.out HR1.out HK1.out 24
  have HRS1 := hid ((show Blk _ w.heap.size [_, _, _, _, _] by repeat (with_reducible (first | exact HI.out.one | apply Blk.drew))).kp HKp1.out (by omega))
  have HKA1 := hid ((show Kp b w _ by repeat (with_reducible (first | exact HI.out.kp | apply Kp.drew))).trans HKp1.out)
  have hne1 : ¬ w1.heap.size = w.heap.size := by omega
  have hno1 : ¬ w.heap.size = w1.heap.size := by omega
  have hm1 : ts1.length ≤ ts.length := le_some (fun ts h => hT _ ts h) _ (Nat.le_refl _) _ _ H1.out
  go_wp2_with fail
  try rw [hW1]
  clear hW1
  refine (dtakes _ b z ts1 e d Sy.s_star (by decide) (by repeat (with_reducible (first | exact HRd1.out | apply Dr.drew)))).mono ?_
  intro en w2 HD
  rcases hx2 : Sy.takesB z Sy.s_star ts1 with f2 | ⟨v2, ts2⟩
  ·obtain ⟨rfl, HK2⟩ := HD.no hx2
   have HKE := hid ((show Kp b w _ by repeat (with_reducible (first | exact HKA1.out | apply Kp.drew))).trans HK2.out)
   go_wp2_with fail
   exact ⟨rfl, DRes.err (by simp [Sy.pairB, Sy.iteB_takes, Sy.bnd, H1.out, hx2]) HKE.out⟩
  have H2 := hid hx2
  have hn2 : ts2.length < N := Nat.lt_of_le_of_lt (le_takes (Nat.le_refl _) _ _ hx2) hn1
  obtain ⟨rfl, HR2, HK2⟩ := HD.yes hx2
  clear hx2 HD
  have ht2 := HK2.out.size
  have HV1_2 := hid ((show Vr _ w1.heap.size W0.heap.size y1 a1 l1 c1 by repeat (with_reducible (first | exact HV1.out | apply Vr.drew))).kp HK2.out (by omega) (by omega))
  have HRS2 := hid ((show Blk _ w.heap.size [_, _, _, _, _] by repeat (with_reducible (first | exact HRS1.out | apply Blk.drew))).kp HK2.out (by omega))
  have HKA2 := hid ((show Kp b w _ by repeat (with_reducible (first | exact HKA1.out | apply Kp.drew))).trans HK2.out)
  cases v2 with
  | false =>
   obtain ⟨⟨q1_0, q1_1, q1_2, q1_3, q1_4⟩, q1_5, q1_6, q1_7, q1_8, q1_9⟩ := blk5 HV1_2.out.cells
   obtain ⟨⟨u2_0, u2_1, u2_2, u2_3, u2_4⟩, u2_5, u2_6, u2_7, u2_8, u2_9⟩ := blk5 HRS2.out
   go_wp2_with fail
   refine bodyPost_ret (v := .agg #[.int .i64 y1.kind, .int .i64 y1.pos, .string ⟨y1.name.toArray⟩, .int .i64 y1.num, .slice a1 l1 c1]) (by simp [results, Tryz.results100, go_sem, u2_0, u2_1, u2_2, u2_3, u2_4]) rfl ?_
   exact dres_fin (lo := W0.heap.size) y1 ts2 (HV1_2.out.kids.free (by omega)) HR2.out HKA2.out (by simp [Sy.pairB, Sy.iteB_takes, Sy.bnd, H1.out, H2.out]) (by omega) (by omega) (by omega) _ _ _ _ rfl rfl rfl rfl _ _ _ _ _
  | true =>
   have hm2 : ts2.length < n := by have := lt_takes (by decide) H2.out; omega
   obtain ⟨⟨q1_0, q1_1, q1_2, q1_3, q1_4⟩, q1_5, q1_6, q1_7, q1_8, q1_9⟩ := blk5 HV1_2.out.cells
   obtain ⟨⟨u2_0, u2_1, u2_2, u2_3, u2_4⟩, u2_5, u2_6, u2_7, u2_8, u2_9⟩ := blk5 HRS2.out
   go_wp2_with fail
   rcases hx3 : Sy.pairB z N T n ts2 with f3 | ⟨y3, ts3⟩
   ·skip
    refine wp_region_held_drew (S := (fun w' => w'.cell? ⟨w1.heap.size, 0, none⟩ = some (.int .i64 y1.kind) ∧ w'.cell? ⟨w1.heap.size, 1, none⟩ = some (.int .i64 y1.pos) ∧ w'.cell? ⟨w1.heap.size, 2, none⟩ = some (.string ⟨y1.name.toArray⟩) ∧ w'.cell? ⟨w1.heap.size, 3, none⟩ = some (.int .i64 y1.num) ∧ w'.cell? ⟨w1.heap.size, 4, none⟩ = some (.slice a1 l1 c1))) (by kernel_rfl) (by first | trivial | (dsimp only; go_keep)) (fun hHeld => ?_)
    refine wpAnyH_take (i := 0) (v := ?vv0_1) rfl (by kernel_rfl) (by kernel_rfl) (by kernel_rfl) (fun _ _ _ h => h) (Or.inl ⟨by rfl, ?yy0_1⟩) (by assumption) ?rr0_1
    case yy0_1 => (intro w hSw; (try dsimp only at hSw); go_simp; (try with_reducible rfl))
    try simp only [Act.put, List.setIfInBounds_toArray, List.set_cons_zero, List.set_cons_succ]
    refine wpAnyH_take (i := 1) (v := ?vv1_1) rfl (by kernel_rfl) (by kernel_rfl) (by kernel_rfl) (fun _ _ _ h => h) (Or.inl ⟨by rfl, ?yy1_1⟩) (by assumption) ?rr1_1
    case yy1_1 => (intro w hSw; (try dsimp only at hSw); go_simp; (try with_reducible rfl))
    try simp only [Act.put, List.setIfInBounds_toArray, List.set_cons_zero, List.set_cons_succ]
    refine wpAnyH_ready (rs := [2]) (by kernel_rfl) (by simp) (AllReadyH.cons rfl (fun K hK => ?_) AllReadyH.nil)
    go_simp
    refine (IH.out _ b ts2 (by repeat (with_reducible (first | exact HR2.out | apply Dr.drew))) hn2 hm2).mono ?_
    intro en w3 HD
    obtain ⟨rfl, HK3⟩ := HD.no hx3
    have HKE := hid ((show Kp b w _ by repeat (with_reducible (first | exact HKA2.out | apply Kp.drew))).trans HK3.out)
    exact ⟨rfl, DRes.err (by simp [Sy.pairB, Sy.iteB_takes, Sy.bnd, H1.out, H2.out, hx3]) HKE.out⟩
   have H3 := hid hx3
   clear hx3
   go_region_held3 (fun w' => w'.cell? ⟨w1.heap.size, 0, none⟩ = some (.int .i64 y1.kind) ∧ w'.cell? ⟨w1.heap.size, 1, none⟩ = some (.int .i64 y1.pos) ∧ w'.cell? ⟨w1.heap.size, 2, none⟩ = some (.string ⟨y1.name.toArray⟩) ∧ w'.cell? ⟨w1.heap.size, 3, none⟩ = some (.int .i64 y1.num) ∧ w'.cell? ⟨w1.heap.size, 4, none⟩ = some (.slice a1 l1 c1)) (go_keep) (first
    | (go_at_call 100; refine (IH.out _ b ts2 (by repeat (with_reducible (first | exact HR2.out | apply Dr.drew))) hn2 hm2).mono ?_; intro en w3 HD; obtain ⟨a3, l3, c3, rfl, HKd3, HR3, HK3⟩ := HD.yes H3.out; have ht3 := HK3.out.size; (try simp at ht3); have HV1_3 := hid ((show Vr _ w1.heap.size W0.heap.size y1 a1 l1 c1 by repeat (with_reducible (first | exact HV1_2.out | apply Vr.drew))).kp HK3.out (by omega) (by omega)); obtain ⟨⟨q3_0, q3_1, q3_2, q3_3, q3_4⟩, q3_5, q3_6, q3_7, q3_8, q3_9⟩ := blk5 HV1_3.out.cells; have HRS3 := hid ((show Blk _ w.heap.size [_, _, _, _, _] by repeat (with_reducible (first | exact HRS2.out | apply Blk.drew))).kp HK3.out (by omega)); have HKA3 := hid ((show Kp b w _ by repeat (with_reducible (first | exact HKA2.out | apply Kp.drew))).trans HK3.out); obtain ⟨⟨u4_0, u4_1, u4_2, u4_3, u4_4⟩, u4_5, u4_6, u4_7, u4_8, u4_9⟩ := blk5 HRS3.out; have HY3 : Hid (Kids w3 (fun g => w2.heap.size ≤ g) (.slice a3 l3 c3) y3.kids) := HKd3.out.weak (fun g hg _ => by (try simp at hg); omega))
    | (go_at_call 108; have HA4 := hid (HV1_3.out.kids.free (hi := W0.heap.size) (by omega)); have HC4 : Hid (Kids _ (fun g => W0.heap.size ≤ g) (.slice a3 l3 c3) y3.kids) := HY3.out.weak (fun g hg _ => Nat.le_trans (by omega) hg); refine (djoined _ (fun g => W0.heap.size ≤ g) 28 y1 y3 [] a1 a3 l1 c1 l3 c3 (fun g hg => by (try simp at hg); omega) (by repeat (with_reducible (first | exact HA4.out | apply Kids.drew))) (by repeat (with_reducible (first | exact HC4.out | apply Kids.drew)))).mono ?_; rintro en w4 ⟨g4, rfl, HN4, HB4⟩; have ht4 := HB4.out.size; (try simp at ht4); have HV1_4 := hid ((show Vr _ w1.heap.size W0.heap.size y1 a1 l1 c1 by repeat (with_reducible (first | exact HV1_3.out | apply Vr.drew))).past HB4.out); obtain ⟨⟨q5_0, q5_1, q5_2, q5_3, q5_4⟩, q5_5, q5_6, q5_7, q5_8, q5_9⟩ := blk5 HV1_4.out.cells; have HRS4 := hid ((show Blk _ w.heap.size [_, _, _, _, _] by repeat (with_reducible (first | exact HRS3.out | apply Blk.drew))).past HB4.out); have HKA4 := hid ((show Kp b w _ by repeat (with_reducible (first | exact HKA3.out | apply Kp.drew))).below HB4.out); obtain ⟨⟨u6_0, u6_1, u6_2, u6_3, u6_4⟩, u6_5, u6_6, u6_7, u6_8, u6_9⟩ := blk5 HRS4.out; have HR4 := hid ((show Dr _ b z ts3 e d by repeat (with_reducible (first | exact HR3.out | apply Dr.drew))).below HB4.out)))
   all_goals go_wp2_with fail
   obtain ⟨⟨u7_0, u7_1, u7_2, u7_3, u7_4⟩, u7_5, u7_6, u7_7, u7_8, u7_9⟩ := blk5 HRS4.out
   refine bodyPost_ret (v := .agg #[.int .i64 28, .int .i64 y1.pos, .string ⟨([] : List UInt8).toArray⟩, .int .i64 0, .slice (some ⟨g4, 0, none⟩) 2 2]) (by simp [results, Tryz.results100, go_sem, u7_0, u7_1, u7_2, u7_3, u7_4]) rfl ?_
   exact dres_fin (lo := W0.heap.size) (Sy.nd 28 y1.pos [y1, y3]) ts3 HN4.out HR4.out HKA4.out (by simp [Sy.pairB, Sy.iteB_takes, Sy.bnd, H1.out, H2.out, H3.out]) (by omega) (by omega) (by omega) _ _ _ _ rfl rfl rfl rfl _ _ _ _ _
theorem dcons (N e d : Nat) (z : Sy.Env) (E : List Lx.Tk → Sy.R Sy.Tr) (hE : EOK N e d z E) (hC : ROK 149 N e d z (Sy.sumB z N E)) : ∀ (n : Nat) (w : World) (b : Nat) (ts : List Lx.Tk), Dr w b z ts e d → ts.length < N → ts.length < n → Calls Tryz.prog 134 #[.pointer (some ⟨b, 0, none⟩)] w fun en w' => DRes w b z (Sy.consB z N E n ts) e d en w' := by
 intro n
 induction n with
 | zero => intro w b ts _ _ h; omega
 | succ n ih =>
  intro w b ts h hn hm
  have IH := hid ih
  have H := hid h
  have hbR : b < w.heap.size := h.lt
  clear h ih
  go_enter Tryz.func134, Tryz.ntmps134
  go_wp2_with fail
  obtain ⟨W0, hW0, HI⟩ := jn1 H.out 24
  rw [hW0]
  clear hW0
  have hz0 := HI.out.size
  refine (hC _ b ts (by repeat (with_reducible (first | exact HI.out.rd | apply Dr.drew))) hn).mono ?_
  intro en w1 HD
  rcases hx1 : Sy.sumB z N E ts with f1 | ⟨y1, ts1⟩
  ·obtain ⟨rfl, HK1⟩ := HD.no hx1
   have HKE := hid ((show Kp b w _ by repeat (with_reducible (first | exact HI.out.kp | apply Kp.drew))).trans HK1.out)
   go_wp2_with fail
   exact ⟨rfl, DRes.err (by simp [Sy.consB, Sy.iteB_takes, Sy.bnd, hx1]) HKE.out⟩
  have H1 := hid hx1
  have hn1 : ts1.length < N := Nat.lt_of_le_of_lt (le_sum (fun ts h => hE.le _ ts h) _ (Nat.le_refl _) _ _ hx1) hn
  obtain ⟨a1, l1, c1, rfl, HKd1, HR1, HK1⟩ := HD.yes hx1
  clear hx1 HD
  obtain ⟨W1, hW1, HV1, HRd1, HKp1, hs1, ht1⟩ := jvar_new HKd1.out HR1.out HK1.out 24
  have HRS1 := hid ((show Blk _ w.heap.size [_, _, _, _, _] by repeat (with_reducible (first | exact HI.out.one | apply Blk.drew))).kp HKp1.out (by omega))
  have HKA1 := hid ((show Kp b w _ by repeat (with_reducible (first | exact HI.out.kp | apply Kp.drew))).trans HKp1.out)
  have hne1 : ¬ w1.heap.size = w.heap.size := by omega
  have hno1 : ¬ w.heap.size = w1.heap.size := by omega
  have hm1 : ts1.length ≤ ts.length := le_sum (fun ts h => hE.le _ ts h) _ (Nat.le_refl _) _ _ H1.out
  go_wp2_with fail
  try rw [hW1]
  clear hW1
  refine (dtakes _ b z ts1 e d Sy.s_cons (by decide) (by repeat (with_reducible (first | exact HRd1.out | apply Dr.drew)))).mono ?_
  intro en w2 HD
  rcases hx2 : Sy.takesB z Sy.s_cons ts1 with f2 | ⟨v2, ts2⟩
  ·obtain ⟨rfl, HK2⟩ := HD.no hx2
   have HKE := hid ((show Kp b w _ by repeat (with_reducible (first | exact HKA1.out | apply Kp.drew))).trans HK2.out)
   go_wp2_with fail
   exact ⟨rfl, DRes.err (by simp [Sy.consB, Sy.iteB_takes, Sy.bnd, H1.out, hx2]) HKE.out⟩
  have H2 := hid hx2
  have hn2 : ts2.length < N := Nat.lt_of_le_of_lt (le_takes (Nat.le_refl _) _ _ hx2) hn1
  obtain ⟨rfl, HR2, HK2⟩ := HD.yes hx2
  clear hx2 HD
  have ht2 := HK2.out.size
  have HV1_2 := hid ((show Vr _ w1.heap.size W0.heap.size y1 a1 l1 c1 by repeat (with_reducible (first | exact HV1.out | apply Vr.drew))).kp HK2.out (by omega) (by omega))
  have HRS2 := hid ((show Blk _ w.heap.size [_, _, _, _, _] by repeat (with_reducible (first | exact HRS1.out | apply Blk.drew))).kp HK2.out (by omega))
  have HKA2 := hid ((show Kp b w _ by repeat (with_reducible (first | exact HKA1.out | apply Kp.drew))).trans HK2.out)
  cases v2 with
  | false =>
   obtain ⟨⟨q1_0, q1_1, q1_2, q1_3, q1_4⟩, q1_5, q1_6, q1_7, q1_8, q1_9⟩ := blk5 HV1_2.out.cells
   obtain ⟨⟨u2_0, u2_1, u2_2, u2_3, u2_4⟩, u2_5, u2_6, u2_7, u2_8, u2_9⟩ := blk5 HRS2.out
   go_wp2_with fail
   refine bodyPost_ret (v := .agg #[.int .i64 y1.kind, .int .i64 y1.pos, .string ⟨y1.name.toArray⟩, .int .i64 y1.num, .slice a1 l1 c1]) (by simp [results, Tryz.results134, go_sem, u2_0, u2_1, u2_2, u2_3, u2_4]) rfl ?_
   exact dres_fin (lo := W0.heap.size) y1 ts2 (HV1_2.out.kids.free (by omega)) HR2.out HKA2.out (by simp [Sy.consB, Sy.iteB_takes, Sy.bnd, H1.out, H2.out]) (by omega) (by omega) (by omega) _ _ _ _ rfl rfl rfl rfl _ _ _ _ _
  | true =>
   have hm2 : ts2.length < n := by have := lt_takes (by decide) H2.out; omega
   obtain ⟨⟨q1_0, q1_1, q1_2, q1_3, q1_4⟩, q1_5, q1_6, q1_7, q1_8, q1_9⟩ := blk5 HV1_2.out.cells
   obtain ⟨⟨u2_0, u2_1, u2_2, u2_3, u2_4⟩, u2_5, u2_6, u2_7, u2_8, u2_9⟩ := blk5 HRS2.out
   go_wp2_with fail
   rcases hx3 : Sy.consB z N E n ts2 with f3 | ⟨y3, ts3⟩
   ·skip
    refine wp_region_held_drew (S := (fun w' => w'.cell? ⟨w1.heap.size, 0, none⟩ = some (.int .i64 y1.kind) ∧ w'.cell? ⟨w1.heap.size, 1, none⟩ = some (.int .i64 y1.pos) ∧ w'.cell? ⟨w1.heap.size, 2, none⟩ = some (.string ⟨y1.name.toArray⟩) ∧ w'.cell? ⟨w1.heap.size, 3, none⟩ = some (.int .i64 y1.num) ∧ w'.cell? ⟨w1.heap.size, 4, none⟩ = some (.slice a1 l1 c1))) (by kernel_rfl) (by first | trivial | (dsimp only; go_keep)) (fun hHeld => ?_)
    refine wpAnyH_take (i := 0) (v := ?vv0_2) rfl (by kernel_rfl) (by kernel_rfl) (by kernel_rfl) (fun _ _ _ h => h) (Or.inl ⟨by rfl, ?yy0_2⟩) (by assumption) ?rr0_2
    case yy0_2 => (intro w hSw; (try dsimp only at hSw); go_simp; (try with_reducible rfl))
    try simp only [Act.put, List.setIfInBounds_toArray, List.set_cons_zero, List.set_cons_succ]
    refine wpAnyH_take (i := 1) (v := ?vv1_2) rfl (by kernel_rfl) (by kernel_rfl) (by kernel_rfl) (fun _ _ _ h => h) (Or.inl ⟨by rfl, ?yy1_2⟩) (by assumption) ?rr1_2
    case yy1_2 => (intro w hSw; (try dsimp only at hSw); go_simp; (try with_reducible rfl))
    try simp only [Act.put, List.setIfInBounds_toArray, List.set_cons_zero, List.set_cons_succ]
    refine wpAnyH_ready (rs := [2]) (by kernel_rfl) (by simp) (AllReadyH.cons rfl (fun K hK => ?_) AllReadyH.nil)
    go_simp
    refine (IH.out _ b ts2 (by repeat (with_reducible (first | exact HR2.out | apply Dr.drew))) hn2 hm2).mono ?_
    intro en w3 HD
    obtain ⟨rfl, HK3⟩ := HD.no hx3
    have HKE := hid ((show Kp b w _ by repeat (with_reducible (first | exact HKA2.out | apply Kp.drew))).trans HK3.out)
    exact ⟨rfl, DRes.err (by simp [Sy.consB, Sy.iteB_takes, Sy.bnd, H1.out, H2.out, hx3]) HKE.out⟩
   have H3 := hid hx3
   clear hx3
   go_region_held3 (fun w' => w'.cell? ⟨w1.heap.size, 0, none⟩ = some (.int .i64 y1.kind) ∧ w'.cell? ⟨w1.heap.size, 1, none⟩ = some (.int .i64 y1.pos) ∧ w'.cell? ⟨w1.heap.size, 2, none⟩ = some (.string ⟨y1.name.toArray⟩) ∧ w'.cell? ⟨w1.heap.size, 3, none⟩ = some (.int .i64 y1.num) ∧ w'.cell? ⟨w1.heap.size, 4, none⟩ = some (.slice a1 l1 c1)) (go_keep) (first
    | (go_at_call 134; refine (IH.out _ b ts2 (by repeat (with_reducible (first | exact HR2.out | apply Dr.drew))) hn2 hm2).mono ?_; intro en w3 HD; obtain ⟨a3, l3, c3, rfl, HKd3, HR3, HK3⟩ := HD.yes H3.out; have ht3 := HK3.out.size; (try simp at ht3); have HV1_3 := hid ((show Vr _ w1.heap.size W0.heap.size y1 a1 l1 c1 by repeat (with_reducible (first | exact HV1_2.out | apply Vr.drew))).kp HK3.out (by omega) (by omega)); obtain ⟨⟨q3_0, q3_1, q3_2, q3_3, q3_4⟩, q3_5, q3_6, q3_7, q3_8, q3_9⟩ := blk5 HV1_3.out.cells; have HRS3 := hid ((show Blk _ w.heap.size [_, _, _, _, _] by repeat (with_reducible (first | exact HRS2.out | apply Blk.drew))).kp HK3.out (by omega)); have HKA3 := hid ((show Kp b w _ by repeat (with_reducible (first | exact HKA2.out | apply Kp.drew))).trans HK3.out); obtain ⟨⟨u4_0, u4_1, u4_2, u4_3, u4_4⟩, u4_5, u4_6, u4_7, u4_8, u4_9⟩ := blk5 HRS3.out; have HY3 : Hid (Kids w3 (fun g => w2.heap.size ≤ g) (.slice a3 l3 c3) y3.kids) := HKd3.out.weak (fun g hg _ => by (try simp at hg); omega))
    | (go_at_call 108; have HA4 := hid (HV1_3.out.kids.free (hi := W0.heap.size) (by omega)); have HC4 : Hid (Kids _ (fun g => W0.heap.size ≤ g) (.slice a3 l3 c3) y3.kids) := HY3.out.weak (fun g hg _ => Nat.le_trans (by omega) hg); refine (djoined _ (fun g => W0.heap.size ≤ g) 16 y1 y3 [] a1 a3 l1 c1 l3 c3 (fun g hg => by (try simp at hg); omega) (by repeat (with_reducible (first | exact HA4.out | apply Kids.drew))) (by repeat (with_reducible (first | exact HC4.out | apply Kids.drew)))).mono ?_; rintro en w4 ⟨g4, rfl, HN4, HB4⟩; have ht4 := HB4.out.size; (try simp at ht4); have HV1_4 := hid ((show Vr _ w1.heap.size W0.heap.size y1 a1 l1 c1 by repeat (with_reducible (first | exact HV1_3.out | apply Vr.drew))).past HB4.out); obtain ⟨⟨q5_0, q5_1, q5_2, q5_3, q5_4⟩, q5_5, q5_6, q5_7, q5_8, q5_9⟩ := blk5 HV1_4.out.cells; have HRS4 := hid ((show Blk _ w.heap.size [_, _, _, _, _] by repeat (with_reducible (first | exact HRS3.out | apply Blk.drew))).past HB4.out); have HKA4 := hid ((show Kp b w _ by repeat (with_reducible (first | exact HKA3.out | apply Kp.drew))).below HB4.out); obtain ⟨⟨u6_0, u6_1, u6_2, u6_3, u6_4⟩, u6_5, u6_6, u6_7, u6_8, u6_9⟩ := blk5 HRS4.out; have HR4 := hid ((show Dr _ b z ts3 e d by repeat (with_reducible (first | exact HR3.out | apply Dr.drew))).below HB4.out)))
   all_goals go_wp2_with fail
   obtain ⟨⟨u7_0, u7_1, u7_2, u7_3, u7_4⟩, u7_5, u7_6, u7_7, u7_8, u7_9⟩ := blk5 HRS4.out
   refine bodyPost_ret (v := .agg #[.int .i64 16, .int .i64 y1.pos, .string ⟨([] : List UInt8).toArray⟩, .int .i64 0, .slice (some ⟨g4, 0, none⟩) 2 2]) (by simp [results, Tryz.results134, go_sem, u7_0, u7_1, u7_2, u7_3, u7_4]) rfl ?_
   exact dres_fin (lo := W0.heap.size) (Sy.nd 16 y1.pos [y1, y3]) ts3 HN4.out HR4.out HKA4.out (by simp [Sy.consB, Sy.iteB_takes, Sy.bnd, H1.out, H2.out, H3.out]) (by omega) (by omega) (by omega) _ _ _ _ rfl rfl rfl rfl _ _ _ _ _
theorem dcomparison (N e d : Nat) (z : Sy.Env) (E : List Lx.Tk → Sy.R Sy.Tr) (hE : EOK N e d z E) (hC : ROK 134 N e d z (Sy.consB z N E N)) : ROK 107 N e d z (Sy.compB z N E) := by
 intro w b ts h hn
 have H := hid h
 have hbR : b < w.heap.size := h.lt
 clear h
 go_enter Tryz.func107, Tryz.ntmps107
 go_wp2_with fail
 obtain ⟨W0, hW0, HI⟩ := jn1 H.out 24
 rw [hW0]
 clear hW0
 have hz0 := HI.out.size
 refine (hC _ b ts (by repeat (with_reducible (first | exact HI.out.rd | apply Dr.drew))) hn).mono ?_
 intro en w1 HD
 rcases hx1 : Sy.consB z N E N ts with f1 | ⟨y1, ts1⟩
 ·obtain ⟨rfl, HK1⟩ := HD.no hx1
  have HKE := hid ((show Kp b w _ by repeat (with_reducible (first | exact HI.out.kp | apply Kp.drew))).trans HK1.out)
  go_wp2_with fail
  exact ⟨rfl, DRes.err (by simp [Sy.compB, Sy.iteB_takes, Sy.bnd, hx1]) HKE.out⟩
 have H1 := hid hx1
 have hn1 : ts1.length < N := Nat.lt_of_le_of_lt (le_cons (fun ts h => hE.le _ ts h) _ _ (Nat.le_refl _) _ _ hx1) hn
 obtain ⟨a1, l1, c1, rfl, HKd1, HR1, HK1⟩ := HD.yes hx1
 clear hx1 HD
 obtain ⟨W1, hW1, HV1, HRd1, HKp1, hs1, ht1⟩ := jvar_new HKd1.out HR1.out HK1.out 24
 have HRS1 := hid ((show Blk _ w.heap.size [_, _, _, _, _] by repeat (with_reducible (first | exact HI.out.one | apply Blk.drew))).kp HKp1.out (by omega))
 have HKA1 := hid ((show Kp b w _ by repeat (with_reducible (first | exact HI.out.kp | apply Kp.drew))).trans HKp1.out)
 have hne1 : ¬ w1.heap.size = w.heap.size := by omega
 have hno1 : ¬ w.heap.size = w1.heap.size := by omega
 go_wp2_with fail
 try rw [hW1]
 clear hW1
 rcases hl2 : Sy.lookB z ts1 with f2 | ⟨t2, us2⟩
 ·refine (dsees _ b z ts1 e d Sy.s_eqeq (by repeat (with_reducible (first | exact HRd1.out | apply Dr.drew)))).mono ?_
  intro en w2 HD
  obtain ⟨rfl, HK2⟩ := HD.no (f := f2) (by simp [Sy.seesB, Sy.bnd, hl2])
  have HKE := hid ((show Kp b w _ by repeat (with_reducible (first | exact HKA1.out | apply Kp.drew))).trans HK2.out)
  go_wp2_with fail
  exact ⟨rfl, DRes.err (by simp [Sy.compB, Sy.iteB_takes, Sy.bnd, H1.out, hl2]) HKE.out⟩
 have HL2 : Hid (Sy.lookB z ts1 = .ok (t2, ts1)) := by obtain ⟨h1, _⟩ := look_ok hl2; rw [Hid, hl2, h1]
 clear hl2
 refine (dsees _ b z ts1 e d Sy.s_eqeq (by repeat (with_reducible (first | exact HRd1.out | apply Dr.drew)))).mono ?_
 intro en w2 HD
 obtain ⟨rfl, HR2, HK2⟩ := HD.yes (a := t2.text == Sy.s_eqeq) (ts := ts1) (by simp [Sy.seesB, Sy.bnd, HL2.out])
 clear HD
 have ht2 := HK2.out.size
 have HV1_2 := hid ((show Vr _ w1.heap.size W0.heap.size y1 a1 l1 c1 by repeat (with_reducible (first | exact HV1.out | apply Vr.drew))).kp HK2.out (by omega) (by omega))
 have HRS2 := hid ((show Blk _ w.heap.size [_, _, _, _, _] by repeat (with_reducible (first | exact HRS1.out | apply Blk.drew))).kp HK2.out (by omega))
 have HKA2 := hid ((show Kp b w _ by repeat (with_reducible (first | exact HKA1.out | apply Kp.drew))).trans HK2.out)
 cases hv1 : (t2.text == Sy.s_eqeq) with
 | true =>
  go_wp2_with fail
  have HTS2 : Hid (ts1 = t2 :: ts1.tail) := look_some HL2.out (.inl (text_ne hv1 (by decide)))
  have hlt2 : ts1.tail.length < N := by simp only [List.length_tail]; omega
  obtain ⟨hf0, hf1, hf2, hf3⟩ := fld_tk (.int .i64 t2.kind) (.int .i64 t2.pos) (.string ⟨t2.text.toArray⟩) (.int .i64 t2.num)
  refine (dtake _ b z t2 ts1.tail e d (by rw [← HTS2.out]; repeat (with_reducible (first | exact HR2.out | apply Dr.drew)))).mono ?_
  intro en w3 HD
  obtain ⟨rfl, HR3, HK3⟩ := HD.yes rfl
  dsimp only [tkV]
  clear HD
  have ht3 := HK3.out.size
  have HV1_3 := hid ((show Vr _ w1.heap.size W0.heap.size y1 a1 l1 c1 by repeat (with_reducible (first | exact HV1_2.out | apply Vr.drew))).kp HK3.out (by omega) (by omega))
  have HRS3 := hid ((show Blk _ w.heap.size [_, _, _, _, _] by repeat (with_reducible (first | exact HRS2.out | apply Blk.drew))).kp HK3.out (by omega))
  have HKA3 := hid ((show Kp b w _ by repeat (with_reducible (first | exact HKA2.out | apply Kp.drew))).trans HK3.out)
  obtain ⟨⟨q1_0, q1_1, q1_2, q1_3, q1_4⟩, q1_5, q1_6, q1_7, q1_8, q1_9⟩ := blk5 HV1_3.out.cells
  obtain ⟨⟨u2_0, u2_1, u2_2, u2_3, u2_4⟩, u2_5, u2_6, u2_7, u2_8, u2_9⟩ := blk5 HRS3.out
  go_wp2_with fail
  rcases hx4 : Sy.consB z N E N ts1.tail with f4 | ⟨y4, ts4⟩
  ·skip
   refine wp_region_held_drew (S := (fun w' => w'.cell? ⟨w1.heap.size, 0, none⟩ = some (.int .i64 y1.kind) ∧ w'.cell? ⟨w1.heap.size, 1, none⟩ = some (.int .i64 y1.pos) ∧ w'.cell? ⟨w1.heap.size, 2, none⟩ = some (.string ⟨y1.name.toArray⟩) ∧ w'.cell? ⟨w1.heap.size, 3, none⟩ = some (.int .i64 y1.num) ∧ w'.cell? ⟨w1.heap.size, 4, none⟩ = some (.slice a1 l1 c1))) (by kernel_rfl) (by first | trivial | (dsimp only; go_keep)) (fun hHeld => ?_)
   refine wpAnyH_take (i := 0) (v := ?vv0_3) rfl (by kernel_rfl) (by kernel_rfl) (by kernel_rfl) (fun _ _ _ h => h) (Or.inl ⟨by rfl, ?yy0_3⟩) (by assumption) ?rr0_3
   case yy0_3 => (intro w hSw; (try dsimp only at hSw); go_simp; (try with_reducible rfl))
   try simp only [Act.put, List.setIfInBounds_toArray, List.set_cons_zero, List.set_cons_succ]
   refine wpAnyH_take (i := 1) (v := ?vv1_3) rfl (by kernel_rfl) (by kernel_rfl) (by kernel_rfl) (fun _ _ _ h => h) (Or.inl ⟨by rfl, ?yy1_3⟩) (by assumption) ?rr1_3
   case yy1_3 => (intro w hSw; (try dsimp only at hSw); go_simp; (try with_reducible rfl))
   try simp only [Act.put, List.setIfInBounds_toArray, List.set_cons_zero, List.set_cons_succ]
   refine wpAnyH_take (i := 2) (v := ?vv2_3) rfl (by kernel_rfl) (by kernel_rfl) (by kernel_rfl) (fun _ _ _ h => h) (Or.inl ⟨by rfl, ?yy2_3⟩) (by assumption) ?rr2_3
   case yy2_3 => (intro w hSw; (try dsimp only at hSw); go_simp; (try with_reducible rfl))
   try simp only [Act.put, List.setIfInBounds_toArray, List.set_cons_zero, List.set_cons_succ]
   refine wpAnyH_ready (rs := [3]) (by kernel_rfl) (by simp) (AllReadyH.cons rfl (fun K hK => ?_) AllReadyH.nil)
   go_simp
   refine (hC _ b ts1.tail (by repeat (with_reducible (first | exact HR3.out | apply Dr.drew))) hlt2).mono ?_
   intro en w4 HD
   obtain ⟨rfl, HK4⟩ := HD.no hx4
   have HKE := hid ((show Kp b w _ by repeat (with_reducible (first | exact HKA3.out | apply Kp.drew))).trans HK4.out)
   exact ⟨rfl, DRes.err (by simp [Sy.compB, Sy.iteB_takes, Sy.bnd, H1.out, HL2.out, hv1, hx4]) HKE.out⟩
  have H4 := hid hx4
  clear hx4
  go_region_held3 (fun w' => w'.cell? ⟨w1.heap.size, 0, none⟩ = some (.int .i64 y1.kind) ∧ w'.cell? ⟨w1.heap.size, 1, none⟩ = some (.int .i64 y1.pos) ∧ w'.cell? ⟨w1.heap.size, 2, none⟩ = some (.string ⟨y1.name.toArray⟩) ∧ w'.cell? ⟨w1.heap.size, 3, none⟩ = some (.int .i64 y1.num) ∧ w'.cell? ⟨w1.heap.size, 4, none⟩ = some (.slice a1 l1 c1)) (go_keep) (first
   | (go_at_call 134; refine (hC _ b ts1.tail (by repeat (with_reducible (first | exact HR3.out | apply Dr.drew))) hlt2).mono ?_; intro en w4 HD; obtain ⟨a4, l4, c4, rfl, HKd4, HR4, HK4⟩ := HD.yes H4.out; have ht4 := HK4.out.size; (try simp at ht4); have HV1_4 := hid ((show Vr _ w1.heap.size W0.heap.size y1 a1 l1 c1 by repeat (with_reducible (first | exact HV1_3.out | apply Vr.drew))).kp HK4.out (by omega) (by omega)); obtain ⟨⟨q3_0, q3_1, q3_2, q3_3, q3_4⟩, q3_5, q3_6, q3_7, q3_8, q3_9⟩ := blk5 HV1_4.out.cells; have HRS4 := hid ((show Blk _ w.heap.size [_, _, _, _, _] by repeat (with_reducible (first | exact HRS3.out | apply Blk.drew))).kp HK4.out (by omega)); have HKA4 := hid ((show Kp b w _ by repeat (with_reducible (first | exact HKA3.out | apply Kp.drew))).trans HK4.out); obtain ⟨⟨u4_0, u4_1, u4_2, u4_3, u4_4⟩, u4_5, u4_6, u4_7, u4_8, u4_9⟩ := blk5 HRS4.out; have HY4 : Hid (Kids w4 (fun g => w3.heap.size ≤ g) (.slice a4 l4 c4) y4.kids) := HKd4.out.weak (fun g hg _ => by (try simp at hg); omega))
   | (go_at_call 108; have HA5 := hid (HV1_4.out.kids.free (hi := W0.heap.size) (by omega)); have HC5 : Hid (Kids _ (fun g => W0.heap.size ≤ g) (.slice a4 l4 c4) y4.kids) := HY4.out.weak (fun g hg _ => Nat.le_trans (by omega) hg); refine (djoined _ (fun g => W0.heap.size ≤ g) 18 y1 y4 t2.text a1 a4 l1 c1 l4 c4 (fun g hg => by (try simp at hg); omega) (by repeat (with_reducible (first | exact HA5.out | apply Kids.drew))) (by repeat (with_reducible (first | exact HC5.out | apply Kids.drew)))).mono ?_; rintro en w5 ⟨g5, rfl, HN5, HB5⟩; have ht5 := HB5.out.size; (try simp at ht5); have HV1_5 := hid ((show Vr _ w1.heap.size W0.heap.size y1 a1 l1 c1 by repeat (with_reducible (first | exact HV1_4.out | apply Vr.drew))).past HB5.out); obtain ⟨⟨q5_0, q5_1, q5_2, q5_3, q5_4⟩, q5_5, q5_6, q5_7, q5_8, q5_9⟩ := blk5 HV1_5.out.cells; have HRS5 := hid ((show Blk _ w.heap.size [_, _, _, _, _] by repeat (with_reducible (first | exact HRS4.out | apply Blk.drew))).past HB5.out); have HKA5 := hid ((show Kp b w _ by repeat (with_reducible (first | exact HKA4.out | apply Kp.drew))).below HB5.out); obtain ⟨⟨u6_0, u6_1, u6_2, u6_3, u6_4⟩, u6_5, u6_6, u6_7, u6_8, u6_9⟩ := blk5 HRS5.out; have HR5 := hid ((show Dr _ b z ts4 e d by repeat (with_reducible (first | exact HR4.out | apply Dr.drew))).below HB5.out)))
  all_goals go_wp2_with fail
  obtain ⟨⟨u7_0, u7_1, u7_2, u7_3, u7_4⟩, u7_5, u7_6, u7_7, u7_8, u7_9⟩ := blk5 HRS5.out
  refine bodyPost_ret (v := .agg #[.int .i64 18, .int .i64 y1.pos, .string ⟨t2.text.toArray⟩, .int .i64 0, .slice (some ⟨g5, 0, none⟩) 2 2]) (by simp [results, Tryz.results107, go_sem, u7_0, u7_1, u7_2, u7_3, u7_4]) rfl ?_
  exact dres_fin (lo := W0.heap.size) (Sy.op2 t2.text y1 y4) ts4 HN5.out HR5.out HKA5.out (by simp [Sy.compB, Sy.op2, Sy.iteB_takes, Sy.bnd, H1.out, HL2.out, hv1, H4.out]) (by omega) (by omega) (by omega) _ _ _ _ rfl rfl rfl rfl _ _ _ _ _
 | false =>
  go_wp2_with fail
  refine (dsees _ b z ts1 e d Sy.s_lt (by repeat (with_reducible (first | exact HR2.out | apply Dr.drew)))).mono ?_
  intro en w3 HD
  obtain ⟨rfl, HR3, HK3⟩ := HD.yes (a := t2.text == Sy.s_lt) (ts := ts1) (by simp [Sy.seesB, Sy.bnd, HL2.out])
  clear HD
  have ht3 := HK3.out.size
  have HV1_3 := hid ((show Vr _ w1.heap.size W0.heap.size y1 a1 l1 c1 by repeat (with_reducible (first | exact HV1_2.out | apply Vr.drew))).kp HK3.out (by omega) (by omega))
  have HRS3 := hid ((show Blk _ w.heap.size [_, _, _, _, _] by repeat (with_reducible (first | exact HRS2.out | apply Blk.drew))).kp HK3.out (by omega))
  have HKA3 := hid ((show Kp b w _ by repeat (with_reducible (first | exact HKA2.out | apply Kp.drew))).trans HK3.out)
  cases hv2 : (t2.text == Sy.s_lt) with
  | true =>
   go_wp2_with fail
   have HTS2 : Hid (ts1 = t2 :: ts1.tail) := look_some HL2.out (.inl (text_ne hv2 (by decide)))
   have hlt2 : ts1.tail.length < N := by simp only [List.length_tail]; omega
   obtain ⟨hf0, hf1, hf2, hf3⟩ := fld_tk (.int .i64 t2.kind) (.int .i64 t2.pos) (.string ⟨t2.text.toArray⟩) (.int .i64 t2.num)
   refine (dtake _ b z t2 ts1.tail e d (by rw [← HTS2.out]; repeat (with_reducible (first | exact HR3.out | apply Dr.drew)))).mono ?_
   intro en w4 HD
   obtain ⟨rfl, HR4, HK4⟩ := HD.yes rfl
   dsimp only [tkV]
   clear HD
   have ht4 := HK4.out.size
   have HV1_4 := hid ((show Vr _ w1.heap.size W0.heap.size y1 a1 l1 c1 by repeat (with_reducible (first | exact HV1_3.out | apply Vr.drew))).kp HK4.out (by omega) (by omega))
   have HRS4 := hid ((show Blk _ w.heap.size [_, _, _, _, _] by repeat (with_reducible (first | exact HRS3.out | apply Blk.drew))).kp HK4.out (by omega))
   have HKA4 := hid ((show Kp b w _ by repeat (with_reducible (first | exact HKA3.out | apply Kp.drew))).trans HK4.out)
   obtain ⟨⟨q1_0, q1_1, q1_2, q1_3, q1_4⟩, q1_5, q1_6, q1_7, q1_8, q1_9⟩ := blk5 HV1_4.out.cells
   obtain ⟨⟨u2_0, u2_1, u2_2, u2_3, u2_4⟩, u2_5, u2_6, u2_7, u2_8, u2_9⟩ := blk5 HRS4.out
   go_wp2_with fail
   rcases hx5 : Sy.consB z N E N ts1.tail with f5 | ⟨y5, ts5⟩
   ·skip
    refine wp_region_held_drew (S := (fun w' => w'.cell? ⟨w1.heap.size, 0, none⟩ = some (.int .i64 y1.kind) ∧ w'.cell? ⟨w1.heap.size, 1, none⟩ = some (.int .i64 y1.pos) ∧ w'.cell? ⟨w1.heap.size, 2, none⟩ = some (.string ⟨y1.name.toArray⟩) ∧ w'.cell? ⟨w1.heap.size, 3, none⟩ = some (.int .i64 y1.num) ∧ w'.cell? ⟨w1.heap.size, 4, none⟩ = some (.slice a1 l1 c1))) (by kernel_rfl) (by first | trivial | (dsimp only; go_keep)) (fun hHeld => ?_)
    refine wpAnyH_take (i := 0) (v := ?vv0_4) rfl (by kernel_rfl) (by kernel_rfl) (by kernel_rfl) (fun _ _ _ h => h) (Or.inl ⟨by rfl, ?yy0_4⟩) (by assumption) ?rr0_4
    case yy0_4 => (intro w hSw; (try dsimp only at hSw); go_simp; (try with_reducible rfl))
    try simp only [Act.put, List.setIfInBounds_toArray, List.set_cons_zero, List.set_cons_succ]
    refine wpAnyH_take (i := 1) (v := ?vv1_4) rfl (by kernel_rfl) (by kernel_rfl) (by kernel_rfl) (fun _ _ _ h => h) (Or.inl ⟨by rfl, ?yy1_4⟩) (by assumption) ?rr1_4
    case yy1_4 => (intro w hSw; (try dsimp only at hSw); go_simp; (try with_reducible rfl))
    try simp only [Act.put, List.setIfInBounds_toArray, List.set_cons_zero, List.set_cons_succ]
    refine wpAnyH_take (i := 2) (v := ?vv2_4) rfl (by kernel_rfl) (by kernel_rfl) (by kernel_rfl) (fun _ _ _ h => h) (Or.inl ⟨by rfl, ?yy2_4⟩) (by assumption) ?rr2_4
    case yy2_4 => (intro w hSw; (try dsimp only at hSw); go_simp; (try with_reducible rfl))
    try simp only [Act.put, List.setIfInBounds_toArray, List.set_cons_zero, List.set_cons_succ]
    refine wpAnyH_ready (rs := [3]) (by kernel_rfl) (by simp) (AllReadyH.cons rfl (fun K hK => ?_) AllReadyH.nil)
    go_simp
    refine (hC _ b ts1.tail (by repeat (with_reducible (first | exact HR4.out | apply Dr.drew))) hlt2).mono ?_
    intro en w5 HD
    obtain ⟨rfl, HK5⟩ := HD.no hx5
    have HKE := hid ((show Kp b w _ by repeat (with_reducible (first | exact HKA4.out | apply Kp.drew))).trans HK5.out)
    exact ⟨rfl, DRes.err (by simp [Sy.compB, Sy.iteB_takes, Sy.bnd, H1.out, HL2.out, hv1, hv2, hx5]) HKE.out⟩
   have H5 := hid hx5
   clear hx5
   go_region_held3 (fun w' => w'.cell? ⟨w1.heap.size, 0, none⟩ = some (.int .i64 y1.kind) ∧ w'.cell? ⟨w1.heap.size, 1, none⟩ = some (.int .i64 y1.pos) ∧ w'.cell? ⟨w1.heap.size, 2, none⟩ = some (.string ⟨y1.name.toArray⟩) ∧ w'.cell? ⟨w1.heap.size, 3, none⟩ = some (.int .i64 y1.num) ∧ w'.cell? ⟨w1.heap.size, 4, none⟩ = some (.slice a1 l1 c1)) (go_keep) (first
    | (go_at_call 134; refine (hC _ b ts1.tail (by repeat (with_reducible (first | exact HR4.out | apply Dr.drew))) hlt2).mono ?_; intro en w5 HD; obtain ⟨a5, l5, c5, rfl, HKd5, HR5, HK5⟩ := HD.yes H5.out; have ht5 := HK5.out.size; (try simp at ht5); have HV1_5 := hid ((show Vr _ w1.heap.size W0.heap.size y1 a1 l1 c1 by repeat (with_reducible (first | exact HV1_4.out | apply Vr.drew))).kp HK5.out (by omega) (by omega)); obtain ⟨⟨q3_0, q3_1, q3_2, q3_3, q3_4⟩, q3_5, q3_6, q3_7, q3_8, q3_9⟩ := blk5 HV1_5.out.cells; have HRS5 := hid ((show Blk _ w.heap.size [_, _, _, _, _] by repeat (with_reducible (first | exact HRS4.out | apply Blk.drew))).kp HK5.out (by omega)); have HKA5 := hid ((show Kp b w _ by repeat (with_reducible (first | exact HKA4.out | apply Kp.drew))).trans HK5.out); obtain ⟨⟨u4_0, u4_1, u4_2, u4_3, u4_4⟩, u4_5, u4_6, u4_7, u4_8, u4_9⟩ := blk5 HRS5.out; have HY5 : Hid (Kids w5 (fun g => w4.heap.size ≤ g) (.slice a5 l5 c5) y5.kids) := HKd5.out.weak (fun g hg _ => by (try simp at hg); omega))
    | (go_at_call 108; have HA6 := hid (HV1_5.out.kids.free (hi := W0.heap.size) (by omega)); have HC6 : Hid (Kids _ (fun g => W0.heap.size ≤ g) (.slice a5 l5 c5) y5.kids) := HY5.out.weak (fun g hg _ => Nat.le_trans (by omega) hg); refine (djoined _ (fun g => W0.heap.size ≤ g) 18 y1 y5 t2.text a1 a5 l1 c1 l5 c5 (fun g hg => by (try simp at hg); omega) (by repeat (with_reducible (first | exact HA6.out | apply Kids.drew))) (by repeat (with_reducible (first | exact HC6.out | apply Kids.drew)))).mono ?_; rintro en w6 ⟨g6, rfl, HN6, HB6⟩; have ht6 := HB6.out.size; (try simp at ht6); have HV1_6 := hid ((show Vr _ w1.heap.size W0.heap.size y1 a1 l1 c1 by repeat (with_reducible (first | exact HV1_5.out | apply Vr.drew))).past HB6.out); obtain ⟨⟨q5_0, q5_1, q5_2, q5_3, q5_4⟩, q5_5, q5_6, q5_7, q5_8, q5_9⟩ := blk5 HV1_6.out.cells; have HRS6 := hid ((show Blk _ w.heap.size [_, _, _, _, _] by repeat (with_reducible (first | exact HRS5.out | apply Blk.drew))).past HB6.out); have HKA6 := hid ((show Kp b w _ by repeat (with_reducible (first | exact HKA5.out | apply Kp.drew))).below HB6.out); obtain ⟨⟨u6_0, u6_1, u6_2, u6_3, u6_4⟩, u6_5, u6_6, u6_7, u6_8, u6_9⟩ := blk5 HRS6.out; have HR6 := hid ((show Dr _ b z ts5 e d by repeat (with_reducible (first | exact HR5.out | apply Dr.drew))).below HB6.out)))
   all_goals go_wp2_with fail
   obtain ⟨⟨u7_0, u7_1, u7_2, u7_3, u7_4⟩, u7_5, u7_6, u7_7, u7_8, u7_9⟩ := blk5 HRS6.out
   refine bodyPost_ret (v := .agg #[.int .i64 18, .int .i64 y1.pos, .string ⟨t2.text.toArray⟩, .int .i64 0, .slice (some ⟨g6, 0, none⟩) 2 2]) (by simp [results, Tryz.results107, go_sem, u7_0, u7_1, u7_2, u7_3, u7_4]) rfl ?_
   exact dres_fin (lo := W0.heap.size) (Sy.op2 t2.text y1 y5) ts5 HN6.out HR6.out HKA6.out (by simp [Sy.compB, Sy.op2, Sy.iteB_takes, Sy.bnd, H1.out, HL2.out, hv1, hv2, H5.out]) (by omega) (by omega) (by omega) _ _ _ _ rfl rfl rfl rfl _ _ _ _ _
  | false =>
   obtain ⟨⟨q1_0, q1_1, q1_2, q1_3, q1_4⟩, q1_5, q1_6, q1_7, q1_8, q1_9⟩ := blk5 HV1_3.out.cells
   obtain ⟨⟨u2_0, u2_1, u2_2, u2_3, u2_4⟩, u2_5, u2_6, u2_7, u2_8, u2_9⟩ := blk5 HRS3.out
   go_wp2_with fail
   refine bodyPost_ret (v := .agg #[.int .i64 y1.kind, .int .i64 y1.pos, .string ⟨y1.name.toArray⟩, .int .i64 y1.num, .slice a1 l1 c1]) (by simp [results, Tryz.results107, go_sem, u2_0, u2_1, u2_2, u2_3, u2_4]) rfl ?_
   exact dres_fin (lo := W0.heap.size) y1 ts1 (HV1_3.out.kids.free (by omega)) HR3.out HKA3.out (by simp [Sy.compB, Sy.iteB_takes, Sy.bnd, H1.out, HL2.out, hv1, hv2]) (by omega) (by omega) (by omega) _ _ _ _ rfl rfl rfl rfl _ _ _ _ _
end Go.Proofs.YtoajnlhegallpaaGreatDoor
