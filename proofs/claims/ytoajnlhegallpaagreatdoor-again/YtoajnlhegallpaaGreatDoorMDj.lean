/-
  What the program's rules do: round, listType, atomType.
-/
import Derived.Test.YtoajnlhegallpaaGreatDoorMDi
set_option linter.unusedVariables false
set_option linter.unusedSimpArgs false
set_option maxRecDepth 100000
set_option maxHeartbeats 4000000
namespace Go.Proofs.YtoajnlhegallpaaGreatDoor
open Go.RowKit

theorem lw_putl {w W : World} {b A R lo e d : Nat} {z : Sy.Env} {ts : List Lx.Tk} {o0 o1 o2 o3 o4 r0 r1 r2 r3 r4 : Value} (hA : Blk W A [o0, o1, o2, o3, o4]) (hR : Blk W R [r0, r1, r2, r3, r4])
  (h1 : R ≠ A) (h2 : b < A) (h4 : w.heap.size ≤ A) (hr : Dr W b z ts e d) (T : Sy.Tr) (l : List (Sy.Tr × Value)) (h0 : l ≠ []) (hk : ∀ p ∈ l, Kids W (Fr lo A) p.2 p.1.kids) (hT : T.kids = l.map (·.1)) (hlo : lo ≤ W.heap.size) (hkp : Kp b w W)
  (cs : Array Value) (hcs : cs = (rowCells l).toArray) (n : Nat) (hn : n = l.length) (ty : TypeId) (kk pp nn : Int) (xx : ByteArray) (e1 : kk = T.kind) (e2 : pp = T.pos) (e3 : xx = ⟨T.name.toArray⟩) (e4 : nn = T.num) :
  ∃ V, (((((W.setCell ⟨A, 0, none⟩ (.int .i64 kk)).setCell ⟨A, 1, none⟩ (.int .i64 pp)).setCell ⟨A, 2, none⟩ (.string xx)).setCell ⟨A, 3, none⟩ (.int .i64 nn)).setCell ⟨A, 4, none⟩ (.slice (some ⟨W.heap.size, 0, none⟩) n n)).alloc (.cells cs ty) = V ∧ Hid (Lw w b A R lo z T ts e d V) := by
 subst e1 e2 e3 e4
 have hAW : A < W.heap.size := hA.lt
 have hs : (sto5 W A (.int .i64 T.kind) (.int .i64 T.pos) (.string ⟨T.name.toArray⟩) (.int .i64 T.num) (.slice (some ⟨W.heap.size, 0, none⟩) n n)).heap.size = W.heap.size := by simp [sto5]
 have hkk := kids_newH (w1 := sto5 W A (.int .i64 T.kind) (.int .i64 T.pos) (.string ⟨T.name.toArray⟩) (.int .i64 T.num) (.slice (some ⟨W.heap.size, 0, none⟩) n n)) (F := Fr lo A) (ty := ty) W.heap.size hs l h0 ⟨hlo, by omega⟩ (fun p hp => (hk p hp).carry (fun g hg _ => sto5_heap _ _ _ _ _ _ _ _ hg.2) (fun g hg _ => hg)) cs hcs n hn (Below.refl _ _)
 refine ⟨_, rfl, ⟨some ⟨W.heap.size, 0, none⟩, n, n, (hA.store _ _ _ _ _).alloc _, by rw [hT]; exact hkk⟩, ⟨r0, r1, r2, r3, r4, (hR.of_heap (sto5_heap _ _ _ _ _ _ _ _ h1)).alloc _⟩, (hr.sto5 h2 _ _ _ _ _).alloc _, (sto5_kp hkp h4 _ _ _ _ _).alloc _⟩

theorem jtok_new {w0 w1 : World} {b e d : Nat} {z : Sy.Env} {ts : List Lx.Tk} (t : Lx.Tk) (hr : Dr w1 b z ts e d) (hk : Kp b w0 w1) (ty : TypeId) :
  ∃ W, w1.alloc (.cells #[.int .i64 t.kind, .int .i64 t.pos, .string ⟨t.text.toArray⟩, .int .i64 t.num] ty) = W ∧ Hid (Blk W w1.heap.size [.int .i64 t.kind, .int .i64 t.pos, .string ⟨t.text.toArray⟩, .int .i64 t.num]) ∧ Hid (Dr W b z ts e d) ∧ Hid (Kp b w0 W) ∧ W.heap.size = w1.heap.size + 1 ∧ w0.heap.size ≤ w1.heap.size :=
 ⟨_, rfl, Blk.new w1 [_, _, _, _] _, hr.alloc _, hk.alloc _, by simp, hk.size⟩

theorem dround (N e d : Nat) (z : Sy.Env) (E : List Lx.Tk → Sy.R Sy.Tr) (hE : EOK N e d z E) (w : World) (b p : Nat) (ts : List Lx.Tk) (h : Dr w b z ts e d) (hn : ts.length < N) :
  Calls Tryz.prog 175 #[.pointer (some ⟨b, 0, none⟩), .int .i64 p] w fun en w' => DRes w b z (Sy.roundB z E p ts) e d en w' := by
 have H := hid h
 have hbR : b < w.heap.size := h.lt
 clear h
 go_enter Tryz.func175, Tryz.ntmps175
 go_wp2_with fail
 obtain ⟨W0, hW0, HI⟩ := jn1 H.out 24
 rw [hW0]
 clear hW0
 have hz0 := HI.out.size
 refine (dtakes _ b z ts e d Sy.s_rp (by decide) (by repeat (with_reducible (first | exact HI.out.rd | apply Dr.drew)))).mono ?_
 intro en w1 HD
 rcases hx1 : Sy.takesB z Sy.s_rp ts with f1 | ⟨v1, ts1⟩
 ·obtain ⟨rfl, HK1⟩ := HD.no hx1
  have HKE := hid ((show Kp b w _ by repeat (with_reducible (first | exact HI.out.kp | apply Kp.drew))).trans HK1.out)
  go_wp2_with fail
  exact ⟨rfl, DRes.err (by simp [Sy.roundB, Sy.iteB_takes, Sy.bnd, hx1]) HKE.out⟩
 have H1 := hid hx1
 have hn1 : ts1.length < N := Nat.lt_of_le_of_lt (le_takes (Nat.le_refl _) _ _ hx1) hn
 obtain ⟨rfl, HR1, HK1⟩ := HD.yes hx1
 clear hx1 HD
 have ht1 := HK1.out.size
 have HRS1 := hid ((show Blk _ w.heap.size [_, _, _, _, _] by repeat (with_reducible (first | exact HI.out.one | apply Blk.drew))).kp HK1.out (by omega))
 have HKA1 := hid ((show Kp b w _ by repeat (with_reducible (first | exact HI.out.kp | apply Kp.drew))).trans HK1.out)
 cases v1 with
 | true =>
  obtain ⟨⟨u1_0, u1_1, u1_2, u1_3, u1_4⟩, u1_5, u1_6, u1_7, u1_8, u1_9⟩ := blk5 HRS1.out
  go_wp2_with fail
  refine bodyPost_ret (v := .agg #[.int .i64 5, .int .i64 p, .string ⟨([] : List UInt8).toArray⟩, .int .i64 0, .slice none 0 0]) (by simp [results, Tryz.results175, go_sem, u1_0, u1_1, u1_2, u1_3, u1_4]) rfl ?_
  exact dres_fin (lo := W0.heap.size) (Sy.nd 5 p []) ts1 .nil HR1.out HKA1.out (by simp [Sy.roundB, Sy.iteB_takes, Sy.bnd, H1.out]) (by omega) (by omega) (by omega) _ _ _ _ rfl rfl rfl rfl _ _ _ _ _
 | false =>
  go_wp2_with fail
  refine (hE.calls _ b ts1 (by repeat (with_reducible (first | exact HR1.out | apply Dr.drew))) hn1).mono ?_
  intro en w2 HD
  rcases hx2 : E ts1 with f2 | ⟨y2, ts2⟩
  ·obtain ⟨rfl, HK2⟩ := HD.no hx2
   have HKE := hid ((show Kp b w _ by repeat (with_reducible (first | exact HKA1.out | apply Kp.drew))).trans HK2.out)
   go_wp2_with fail
   exact ⟨rfl, DRes.err (by simp [Sy.roundB, Sy.iteB_takes, Sy.bnd, H1.out, hx2]) HKE.out⟩
  have H2 := hid hx2
  have hn2 : ts2.length < N := Nat.lt_of_le_of_lt (hE.le _ _ (Nat.le_refl _) _ _ hx2) hn1
  obtain ⟨a2, l2, c2, rfl, HKd2, HR2, HK2⟩ := HD.yes hx2
  clear hx2 HD
  obtain ⟨W2, hW2, HV2, HRd2, HKp2, hs2, ht2⟩ := jvar_new HKd2.out HR2.out HK2.out 24
  have HRS2 := hid ((show Blk _ w.heap.size [_, _, _, _, _] by repeat (with_reducible (first | exact HRS1.out | apply Blk.drew))).kp HKp2.out (by omega))
  have HKA2 := hid ((show Kp b w _ by repeat (with_reducible (first | exact HKA1.out | apply Kp.drew))).trans HKp2.out)
  have hne2 : ¬ w2.heap.size = w.heap.size := by omega
  have hno2 : ¬ w.heap.size = w2.heap.size := by omega
  go_wp2_with fail
  try rw [hW2]
  clear hW2
  refine (dtakes _ b z ts2 e d Sy.s_comma (by decide) (by repeat (with_reducible (first | exact HRd2.out | apply Dr.drew)))).mono ?_
  intro en w3 HD
  rcases hx3 : Sy.takesB z Sy.s_comma ts2 with f3 | ⟨v3, ts3⟩
  ·obtain ⟨rfl, HK3⟩ := HD.no hx3
   have HKE := hid ((show Kp b w _ by repeat (with_reducible (first | exact HKA2.out | apply Kp.drew))).trans HK3.out)
   go_wp2_with fail
   exact ⟨rfl, DRes.err (by simp [Sy.roundB, Sy.iteB_takes, Sy.bnd, H1.out, H2.out, hx3]) HKE.out⟩
  have H3 := hid hx3
  have hn3 : ts3.length < N := Nat.lt_of_le_of_lt (le_takes (Nat.le_refl _) _ _ hx3) hn2
  obtain ⟨rfl, HR3, HK3⟩ := HD.yes hx3
  clear hx3 HD
  have ht3 := HK3.out.size
  have HV2_3 := hid ((show Vr _ w2.heap.size w1.heap.size y2 a2 l2 c2 by repeat (with_reducible (first | exact HV2.out | apply Vr.drew))).kp HK3.out (by omega) (by omega))
  have HRS3 := hid ((show Blk _ w.heap.size [_, _, _, _, _] by repeat (with_reducible (first | exact HRS2.out | apply Blk.drew))).kp HK3.out (by omega))
  have HKA3 := hid ((show Kp b w _ by repeat (with_reducible (first | exact HKA2.out | apply Kp.drew))).trans HK3.out)
  cases v3 with
  | false =>
   go_wp2_with fail
   refine (dneed _ b z ts3 e d Sy.s_rp (by decide) (by repeat (with_reducible (first | exact HR3.out | apply Dr.drew)))).mono ?_
   intro en w4 HD
   rcases hx4 : Sy.needB z Sy.s_rp ts3 with f4 | ⟨u4, ts4⟩
   ·obtain ⟨rfl, HK4⟩ := HD.no hx4
    have HKE := hid ((show Kp b w _ by repeat (with_reducible (first | exact HKA3.out | apply Kp.drew))).trans HK4.out)
    go_wp2_with fail
    exact ⟨rfl, DRes.err (by simp [Sy.roundB, Sy.iteB_takes, Sy.bnd, H1.out, H2.out, H3.out, hx4]) HKE.out⟩
   have H4 := hid hx4
   have hn4 : ts4.length < N := Nat.lt_of_le_of_lt (le_need (Nat.le_refl _) _ _ hx4) hn3
   obtain ⟨rfl, HR4, HK4⟩ := HD.yes hx4
   clear hx4 HD
   have ht4 := HK4.out.size
   have HV2_4 := hid ((show Vr _ w2.heap.size w1.heap.size y2 a2 l2 c2 by repeat (with_reducible (first | exact HV2_3.out | apply Vr.drew))).kp HK4.out (by omega) (by omega))
   have HRS4 := hid ((show Blk _ w.heap.size [_, _, _, _, _] by repeat (with_reducible (first | exact HRS3.out | apply Blk.drew))).kp HK4.out (by omega))
   have HKA4 := hid ((show Kp b w _ by repeat (with_reducible (first | exact HKA3.out | apply Kp.drew))).trans HK4.out)
   obtain ⟨⟨q1_0, q1_1, q1_2, q1_3, q1_4⟩, q1_5, q1_6, q1_7, q1_8, q1_9⟩ := blk5 HV2_4.out.cells
   obtain ⟨⟨u2_0, u2_1, u2_2, u2_3, u2_4⟩, u2_5, u2_6, u2_7, u2_8, u2_9⟩ := blk5 HRS4.out
   go_wp2_with fail
   refine bodyPost_ret (v := .agg #[.int .i64 y2.kind, .int .i64 y2.pos, .string ⟨y2.name.toArray⟩, .int .i64 y2.num, .slice a2 l2 c2]) (by simp [results, Tryz.results175, go_sem, u2_0, u2_1, u2_2, u2_3, u2_4]) rfl ?_
   exact dres_fin (lo := W0.heap.size) y2 ts4 (HV2_4.out.kids.free (by omega)) HR4.out HKA4.out (by simp [Sy.roundB, Sy.iteB_takes, Sy.bnd, H1.out, H2.out, H3.out, H4.out]) (by omega) (by omega) (by omega) _ _ _ _ rfl rfl rfl rfl _ _ _ _ _
  | true =>
   obtain ⟨⟨q1_0, q1_1, q1_2, q1_3, q1_4⟩, q1_5, q1_6, q1_7, q1_8, q1_9⟩ := blk5 HV2_3.out.cells
   obtain ⟨⟨u2_0, u2_1, u2_2, u2_3, u2_4⟩, u2_5, u2_6, u2_7, u2_8, u2_9⟩ := blk5 HRS3.out
   go_wp2_with fail
   rcases hx4 : E ts3 with f4 | ⟨y4, ts4⟩
   ·skip
    refine wp_region_held_drew (S := (fun w' => w'.cell? ⟨w2.heap.size, 0, none⟩ = some (.int .i64 y2.kind) ∧ w'.cell? ⟨w2.heap.size, 1, none⟩ = some (.int .i64 y2.pos) ∧ w'.cell? ⟨w2.heap.size, 2, none⟩ = some (.string ⟨y2.name.toArray⟩) ∧ w'.cell? ⟨w2.heap.size, 3, none⟩ = some (.int .i64 y2.num) ∧ w'.cell? ⟨w2.heap.size, 4, none⟩ = some (.slice a2 l2 c2))) (by kernel_rfl) (by first | trivial | (dsimp only; go_keep)) (fun hHeld => ?_)
    refine wpAnyH_take (i := 0) (v := ?vv0_1) rfl (by kernel_rfl) (by kernel_rfl) (by kernel_rfl) (fun _ _ _ h => h) (Or.inl ⟨by rfl, ?yy0_1⟩) (by assumption) ?rr0_1
    case yy0_1 => (intro w hSw; (try dsimp only at hSw); go_simp; (try with_reducible rfl))
    try simp only [Act.put, List.setIfInBounds_toArray, List.set_cons_zero, List.set_cons_succ]
    refine wpAnyH_take (i := 1) (v := ?vv1_1) rfl (by kernel_rfl) (by kernel_rfl) (by kernel_rfl) (fun _ _ _ h => h) (Or.inl ⟨by rfl, ?yy1_1⟩) (by assumption) ?rr1_1
    case yy1_1 => (intro w hSw; (try dsimp only at hSw); go_simp; (try with_reducible rfl))
    try simp only [Act.put, List.setIfInBounds_toArray, List.set_cons_zero, List.set_cons_succ]
    refine wpAnyH_take (i := 2) (v := ?vv2_1) rfl (by kernel_rfl) (by kernel_rfl) (by kernel_rfl) (fun _ _ _ h => h) (Or.inl ⟨by rfl, ?yy2_1⟩) (by assumption) ?rr2_1
    case yy2_1 => (intro w hSw; (try dsimp only at hSw); go_simp; (try with_reducible rfl))
    try simp only [Act.put, List.setIfInBounds_toArray, List.set_cons_zero, List.set_cons_succ]
    refine wpAnyH_ready (rs := [3]) (by kernel_rfl) (by simp) (AllReadyH.cons rfl (fun K hK => ?_) AllReadyH.nil)
    go_simp
    refine (hE.calls _ b ts3 (by repeat (with_reducible (first | exact HR3.out | apply Dr.drew))) hn3).mono ?_
    intro en w4 HD
    obtain ⟨rfl, HK4⟩ := HD.no hx4
    have HKE := hid ((show Kp b w _ by repeat (with_reducible (first | exact HKA3.out | apply Kp.drew))).trans HK4.out)
    exact ⟨rfl, DRes.err (by simp [Sy.roundB, Sy.iteB_takes, Sy.bnd, H1.out, H2.out, H3.out, hx4]) HKE.out⟩
   have H4 := hid hx4
   have hn4 : ts4.length < N := Nat.lt_of_le_of_lt (hE.le _ _ (Nat.le_refl _) _ _ hx4) hn3
   clear hx4
   go_region_with (first
    | (go_at_call 34; refine (hE.calls _ b ts3 (by repeat (with_reducible (first | exact HR3.out | apply Dr.drew))) hn3).mono ?_; intro en w4 HD; obtain ⟨a4, l4, c4, rfl, HKd4, HR4, HK4⟩ := HD.yes H4.out; have ht4 := HK4.out.size; (try simp at ht4); have HV2_4 := hid ((show Vr _ w2.heap.size w1.heap.size y2 a2 l2 c2 by repeat (with_reducible (first | exact HV2_3.out | apply Vr.drew))).kp HK4.out (by omega) (by omega)); obtain ⟨⟨q3_0, q3_1, q3_2, q3_3, q3_4⟩, q3_5, q3_6, q3_7, q3_8, q3_9⟩ := blk5 HV2_4.out.cells; have HRS4 := hid ((show Blk _ w.heap.size [_, _, _, _, _] by repeat (with_reducible (first | exact HRS3.out | apply Blk.drew))).kp HK4.out (by omega)); have HKA4 := hid ((show Kp b w _ by repeat (with_reducible (first | exact HKA3.out | apply Kp.drew))).trans HK4.out); obtain ⟨⟨u4_0, u4_1, u4_2, u4_3, u4_4⟩, u4_5, u4_6, u4_7, u4_8, u4_9⟩ := blk5 HRS4.out; have hlw4 : w.heap.size < w4.heap.size := Blk.lt HRS4.out; have hlv2_4 : w2.heap.size < w4.heap.size := Blk.lt HV2_4.out.cells; have HY4 : Hid (Kids w4 (fun g => w3.heap.size ≤ g) (.slice a4 l4 c4) y4.kids) := HKd4.out.weak (fun g hg _ => by (try simp at hg); omega)))
   all_goals
    have HAC := hid HV2_4.out.cells
    have hlA : w2.heap.size < w4.heap.size := Blk.lt HV2_4.out.cells
    obtain ⟨V, hV, HLV⟩ := lw_putl (w := w) (lo := w1.heap.size) HAC.out HRS4.out (by omega) (by omega) (by omega) HR4.out (Sy.nd 12 p [y2, y4]) [(y2, .slice a2 l2 c2), (y4, .slice a4 l4 c4)] (by simp) (by intro p hp; simp only [List.mem_cons, List.not_mem_nil, or_false] at hp; rcases hp with rfl | rfl <;> first | exact HV2_4.out.kids | exact (HY4.out.weak (fun g hg _ => ⟨Nat.le_trans (by omega) hg, by omega⟩))) rfl (by omega) HKA4.out #[.int .i64 y2.kind, .int .i64 y2.pos, .string ⟨y2.name.toArray⟩, .int .i64 y2.num, .slice a2 l2 c2, .int .i64 y4.kind, .int .i64 y4.pos, .string ⟨y4.name.toArray⟩, .int .i64 y4.num, .slice a4 l4 c4] rfl 2 rfl 24 12 p 0 ⟨([] : List UInt8).toArray⟩ rfl rfl rfl rfl
    have HVV := hid hV
    clear hV
    go_wp2_with fail
    rw [HVV.out]
    generalize hTT : Sy.nd 12 p [y2, y4] = TT at HLV
    obtain ⟨a5, l5, c5, hVn5⟩ := HLV.out.var
    obtain ⟨r50, r51, r52, r53, r54, hRn5⟩ := HLV.out.res
    have HVn5 := hid hVn5
    have HRn5 := hid hRn5
    have hVlt5 : w2.heap.size < V.heap.size := hVn5.lt
    clear hVn5 hRn5
    refine (dneed _ b z ts4 e d Sy.s_rp (by decide) (by repeat (with_reducible (first | exact HLV.out.rd | apply Dr.drew)))).mono ?_
    intro en w6 HD
    rcases hx6 : Sy.needB z Sy.s_rp ts4 with f6 | ⟨u6, ts6⟩
    ·obtain ⟨rfl, HK6⟩ := HD.no hx6
     have HKE := hid ((show Kp b w _ by repeat (with_reducible (first | exact HLV.out.kp | apply Kp.drew))).trans HK6.out)
     go_wp2_with fail
     exact ⟨rfl, DRes.err (by simp [Sy.roundB, Sy.iteB_takes, Sy.bnd, H1.out, H2.out, H3.out, H4.out, hTT, hx6]) HKE.out⟩
    have H6 := hid hx6
    have hn6 : ts6.length < N := Nat.lt_of_le_of_lt (le_need (Nat.le_refl _) _ _ hx6) hn4
    obtain ⟨rfl, HR6, HK6⟩ := HD.yes hx6
    clear hx6 HD
    have ht6 := HK6.out.size
    have HV2_6 := hid ((show Vr _ w2.heap.size w1.heap.size TT a5 l5 c5 by repeat (with_reducible (first | exact HVn5.out | apply Vr.drew))).kp HK6.out (by omega) (by omega))
    have HRS6 := hid ((show Blk _ w.heap.size [_, _, _, _, _] by repeat (with_reducible (first | exact HRn5.out | apply Blk.drew))).kp HK6.out (by omega))
    have HKA6 := hid ((show Kp b w _ by repeat (with_reducible (first | exact HLV.out.kp | apply Kp.drew))).trans HK6.out)
    obtain ⟨⟨q5_0, q5_1, q5_2, q5_3, q5_4⟩, q5_5, q5_6, q5_7, q5_8, q5_9⟩ := blk5 HV2_6.out.cells
    obtain ⟨⟨u6_0, u6_1, u6_2, u6_3, u6_4⟩, u6_5, u6_6, u6_7, u6_8, u6_9⟩ := blk5 HRS6.out
    go_wp2_with fail
    refine bodyPost_ret (v := .agg #[.int .i64 TT.kind, .int .i64 TT.pos, .string ⟨TT.name.toArray⟩, .int .i64 TT.num, .slice a5 l5 c5]) (by simp [results, Tryz.results175, go_sem, u6_0, u6_1, u6_2, u6_3, u6_4]) rfl ?_
    exact dres_fin (lo := W0.heap.size) TT ts6 (HV2_6.out.kids.free (by omega)) HR6.out HKA6.out (by simp [Sy.roundB, Sy.iteB_takes, Sy.bnd, H1.out, H2.out, H3.out, H4.out, hTT, H6.out]) (by omega) (by omega) (by omega) _ _ _ _ rfl rfl rfl rfl _ _ _ _ _

theorem dlistType (N e d : Nat) (z : Sy.Env) (T0 : List Lx.Tk → Sy.R Sy.Tr) (hT : ∀ (n : Nat) (ts : List Lx.Tk), ts.length ≤ n → LeB n (T0 ts)) (hC : ROK 148 N e d z (Sy.tatomB z T0)) : ROK 130 N e d z (Sy.someB z N T0) := by
 intro w b ts h hn
 have H := hid h
 have hbR : b < w.heap.size := h.lt
 clear h
 go_enter Tryz.func130, Tryz.ntmps130
 go_wp2_with fail
 obtain ⟨W0, hW0, HI⟩ := jn1 H.out 24
 rw [hW0]
 clear hW0
 have hz0 := HI.out.size
 refine (hC _ b ts (by repeat (with_reducible (first | exact HI.out.rd | apply Dr.drew))) hn).mono ?_
 intro en w1 HD
 rcases hx1 : Sy.tatomB z T0 ts with f1 | ⟨y1, ts1⟩
 ·obtain ⟨rfl, HK1⟩ := HD.no hx1
  have HKE := hid ((show Kp b w _ by repeat (with_reducible (first | exact HI.out.kp | apply Kp.drew))).trans HK1.out)
  go_wp2_with fail
  exact ⟨rfl, DRes.err (by simp [Sy.someB, Sy.iteB_takes, Sy.bnd, hx1]) HKE.out⟩
 have H1 := hid hx1
 have hn1 : ts1.length < N := Nat.lt_of_le_of_lt (le_tatom (fun ts h => hT _ ts h) _ (Nat.le_refl _) _ _ hx1) hn
 obtain ⟨a1, l1, c1, rfl, HKd1, HR1, HK1⟩ := HD.yes hx1
 clear hx1 HD
 obtain ⟨W1, hW1, HV1, HRd1, HKp1, hs1, ht1⟩ := jvar_new HKd1.out HR1.out HK1.out 24
 have HRS1 := hid ((show Blk _ w.heap.size [_, _, _, _, _] by repeat (with_reducible (first | exact HI.out.one | apply Blk.drew))).kp HKp1.out (by omega))
 have HKA1 := hid ((show Kp b w _ by repeat (with_reducible (first | exact HI.out.kp | apply Kp.drew))).trans HKp1.out)
 have hne1 : ¬ w1.heap.size = w.heap.size := by omega
 have hno1 : ¬ w.heap.size = w1.heap.size := by omega
 go_wp2_with fail
 try rw [hW1]
 clear hW1
 have HLW : Hid (Lw w b w1.heap.size w.heap.size W0.heap.size z y1 ts1 e d W1) := ⟨⟨_, _, _, Vr.weak HV1.out (by omega)⟩, ⟨_, _, _, _, _, HRS1.out⟩, HRd1.out, HKA1.out⟩
 go_loopg [] N (fun n wr => ∃ (T : Sy.Tr) (tr : List Lx.Tk), Hid (Lw w b w1.heap.size w.heap.size W0.heap.size z T tr e d wr) ∧ Hid (Sy.listsB z n T tr = Sy.someB z N T0 ts) ∧ Hid (tr.length < n) ∧ tr.length < N)
 case atStart => exact ⟨_, _, HLW, hid (by simp [Sy.someB, Sy.iteB_takes, Sy.bnd, H1.out]), hn1, hn1⟩
 case round =>
  obtain ⟨T, tr, HLR, HE, HM, hnr⟩ := hrel
  obtain ⟨m, hm⟩ : ∃ m, gk = m + 1 := ⟨gk - 1, by have := HM.out; omega⟩
  subst hm
  obtain ⟨aA, lA, cA, hVA⟩ := HLR.out.var
  obtain ⟨r0, r1, r2, r3, r4, hRSA⟩ := HLR.out.res
  have HVA := hid hVA
  have HRSA := hid hRSA
  have hwr : w1.heap.size < wr.heap.size := hVA.lt
  clear hVA hRSA
  go_wp2_with fail
  refine (dtakes _ b z tr e d Sy.w_list (by decide) (by repeat (with_reducible (first | exact HLR.out.rd | apply Dr.drew)))).mono ?_
  intro en w12 HD
  rcases hx12 : Sy.takesB z Sy.w_list tr with f12 | ⟨v12, ts12⟩
  ·obtain ⟨rfl, HK12⟩ := HD.no hx12
   have HKE := hid ((show Kp b w _ by repeat (with_reducible (first | exact HLR.out.kp | apply Kp.drew))).trans HK12.out)
   go_wp2_with fail
   exact ⟨rfl, DRes.err (by rw [← HE.out]; simp [Sy.listsB, Sy.iteB_takes, Sy.bnd, hx12]) HKE.out⟩
  have H12 := hid hx12
  have hn12 : ts12.length < N := Nat.lt_of_le_of_lt (le_takes (Nat.le_refl _) _ _ hx12) hnr
  obtain ⟨rfl, HR12, HK12⟩ := HD.yes hx12
  clear hx12 HD
  have ht12 := HK12.out.size
  have HVA_12 := hid ((show Vr _ w1.heap.size W0.heap.size T aA lA cA by repeat (with_reducible (first | exact HVA.out | apply Vr.drew))).kp HK12.out (by omega) (by omega))
  have HRS12 := hid ((show Blk _ w.heap.size [_, _, _, _, _] by repeat (with_reducible (first | exact HRSA.out | apply Blk.drew))).kp HK12.out (by omega))
  have HKA12 := hid ((show Kp b w _ by repeat (with_reducible (first | exact HLR.out.kp | apply Kp.drew))).trans HK12.out)
  cases v12 with
  | false =>
   obtain ⟨⟨q1_0, q1_1, q1_2, q1_3, q1_4⟩, q1_5, q1_6, q1_7, q1_8, q1_9⟩ := blk5 HVA_12.out.cells
   obtain ⟨⟨u2_0, u2_1, u2_2, u2_3, u2_4⟩, u2_5, u2_6, u2_7, u2_8, u2_9⟩ := blk5 HRS12.out
   go_wp2_with fail
   refine bodyPost_ret (v := .agg #[.int .i64 T.kind, .int .i64 T.pos, .string ⟨T.name.toArray⟩, .int .i64 T.num, .slice aA lA cA]) (by simp [results, Tryz.results130, go_sem, u2_0, u2_1, u2_2, u2_3, u2_4]) rfl ?_
   exact dres_fin (lo := W0.heap.size) T ts12 (HVA_12.out.kids.free (by omega)) HR12.out HKA12.out (by rw [← HE.out]; simp [Sy.listsB, Sy.iteB_takes, Sy.bnd, H12.out]) (by omega) (by omega) (by omega) _ _ _ _ rfl rfl rfl rfl _ _ _ _ _
  | true =>
   obtain ⟨⟨q1_0, q1_1, q1_2, q1_3, q1_4⟩, q1_5, q1_6, q1_7, q1_8, q1_9⟩ := blk5 HVA_12.out.cells
   have hmm : ts12.length < m := by have h1 := lt_takes (by decide) H12.out; have h2 := HM.out; omega
   have HAC := hid HVA_12.out.cells
   have hlA : w1.heap.size < w12.heap.size := Blk.lt HVA_12.out.cells
   obtain ⟨V, hV, HLV⟩ := lw_putl (w := w) (lo := W0.heap.size) HAC.out HRS12.out (by omega) (by omega) (by omega) HR12.out (Sy.nd 27 T.pos [T]) [(T, .slice aA lA cA)] (by simp) (by intro p hp; simp only [List.mem_cons, List.not_mem_nil, or_false] at hp; rcases hp with rfl <;> first | exact HVA_12.out.kids) rfl (by omega) HKA12.out #[.int .i64 T.kind, .int .i64 T.pos, .string ⟨T.name.toArray⟩, .int .i64 T.num, .slice aA lA cA] rfl 1 rfl 24 27 T.pos 0 ⟨([] : List UInt8).toArray⟩ rfl rfl rfl rfl
   have HVV := hid hV
   clear hV
   go_wp2_with fail
   rw [HVV.out]
   go_roundg m
   case measure => omega
   case rel => exact ⟨_, _, HLV, hid (by rw [← HE.out]; simp [Sy.listsB, Sy.iteB_takes, Sy.bnd, H12.out]), hmm, hn12⟩

theorem datomType (N e d : Nat) (z : Sy.Env) (T0 : List Lx.Tk → Sy.R Sy.Tr) (hT : ∀ (n : Nat) (ts : List Lx.Tk), ts.length ≤ n → LeB n (T0 ts)) (hC : ROK 63 N e d z T0) : ROK 148 N e d z (Sy.tatomB z T0) := by
 intro w b ts h hn
 have H := hid h
 have hbR : b < w.heap.size := h.lt
 clear h
 go_enter Tryz.func148, Tryz.ntmps148
 go_wp2_with fail
 obtain ⟨W0, hW0, HI⟩ := jn1 H.out 24
 rw [hW0]
 clear hW0
 have hz0 := HI.out.size
 rcases hl1 : Sy.lookB z ts with f1 | ⟨t1, us1⟩
 ·refine (dlook _ b z ts e d (by repeat (with_reducible (first | exact HI.out.rd | apply Dr.drew)))).mono ?_
  intro en w1 HD
  obtain ⟨rfl, HK1⟩ := HD.no (f := f1) (by simp [Sy.bnd, hl1])
  have HKE := hid ((show Kp b w _ by repeat (with_reducible (first | exact HI.out.kp | apply Kp.drew))).trans HK1.out)
  go_wp2_with fail
  exact ⟨rfl, DRes.err (by simp [Sy.tatomB, Sy.iteB_takes, Sy.bnd, hl1]) HKE.out⟩
 have HL1 : Hid (Sy.lookB z ts = .ok (t1, ts)) := by obtain ⟨h1, _⟩ := look_ok hl1; rw [Hid, hl1, h1]
 clear hl1
 refine (dlook _ b z ts e d (by repeat (with_reducible (first | exact HI.out.rd | apply Dr.drew)))).mono ?_
 intro en w2 HD
 obtain ⟨rfl, HR2, HK2⟩ := HD.yes HL1.out
 dsimp only [tkV]
 clear HD
 obtain ⟨W2, hW2, HB2, HRd2, HKp2, hs2, ht2⟩ := jtok_new t1 HR2.out HK2.out 41
 have HRS2 := hid ((show Blk _ w.heap.size [_, _, _, _, _] by repeat (with_reducible (first | exact HI.out.one | apply Blk.drew))).kp HKp2.out (by omega))
 have HKA2 := hid ((show Kp b w _ by repeat (with_reducible (first | exact HI.out.kp | apply Kp.drew))).trans HKp2.out)
 have HW2 := hid hW2
 clear hW2
 cases hv0 : (t1.text == Sy.s_lp) with
 | true =>
  have hu0 : (t1.text == [40]) = true := hv0
  go_wp2_with fail
  rw [HW2.out]
  obtain ⟨q0, q1, q2, q3, q4, q5, q6, q7⟩ := blk4 HB2.out
  go_wp2_with fail
  have HTS1 : Hid (ts = t1 :: ts.tail) := look_some HL1.out (.inl (text_ne hv0 (by decide)))
  have hlt1 : ts.tail.length < N := by simp only [List.length_tail]; omega
  refine (dtake _ b z t1 ts.tail e d (by rw [← HTS1.out]; repeat (with_reducible (first | exact HRd2.out | apply Dr.drew)))).mono ?_
  intro en w3 HD
  obtain ⟨rfl, HR3, HK3⟩ := HD.yes rfl
  dsimp only [tkV]
  clear HD
  have ht3 := HK3.out.size
  have HB2_3 := hid ((show Blk _ w2.heap.size [_, _, _, _] by repeat (with_reducible (first | exact HB2.out | apply Blk.drew))).kp HK3.out (by omega))
  have HRS3 := hid ((show Blk _ w.heap.size [_, _, _, _, _] by repeat (with_reducible (first | exact HRS2.out | apply Blk.drew))).kp HK3.out (by omega))
  have HKA3 := hid ((show Kp b w _ by repeat (with_reducible (first | exact HKA2.out | apply Kp.drew))).trans HK3.out)
  go_wp2_with fail
  refine (hC _ b ts.tail (by repeat (with_reducible (first | exact HR3.out | apply Dr.drew))) hlt1).mono ?_
  intro en w4 HD
  rcases hx4 : T0 ts.tail with f4 | ⟨y4, ts4⟩
  ·obtain ⟨rfl, HK4⟩ := HD.no hx4
   have HKE := hid ((show Kp b w _ by repeat (with_reducible (first | exact HKA3.out | apply Kp.drew))).trans HK4.out)
   go_wp2_with fail
   exact ⟨rfl, DRes.err (by simp [Sy.tatomB, Sy.iteB_takes, Sy.bnd, HL1.out, hv0, hx4]) HKE.out⟩
  have H4 := hid hx4
  have hn4 : ts4.length < N := Nat.lt_of_le_of_lt (hT _ _ (Nat.le_refl _) _ _ hx4) hlt1
  obtain ⟨a4, l4, c4, rfl, HKd4, HR4, HK4⟩ := HD.yes hx4
  clear hx4 HD
  obtain ⟨W4, hW4, HV4, HRd4, HKp4, hs4, ht4⟩ := jvar_new HKd4.out HR4.out HK4.out 24
  have HB2_4 := hid ((show Blk _ w2.heap.size [_, _, _, _] by repeat (with_reducible (first | exact HB2_3.out | apply Blk.drew))).kp HKp4.out (by omega))
  have HRS4 := hid ((show Blk _ w.heap.size [_, _, _, _, _] by repeat (with_reducible (first | exact HRS3.out | apply Blk.drew))).kp HKp4.out (by omega))
  have HKA4 := hid ((show Kp b w _ by repeat (with_reducible (first | exact HKA3.out | apply Kp.drew))).trans HKp4.out)
  have hne4 : ¬ w4.heap.size = w.heap.size := by omega
  have hno4 : ¬ w.heap.size = w4.heap.size := by omega
  go_wp2_with fail
  try rw [hW4]
  clear hW4
  refine (dneed _ b z ts4 e d Sy.s_rp (by decide) (by repeat (with_reducible (first | exact HRd4.out | apply Dr.drew)))).mono ?_
  intro en w5 HD
  rcases hx5 : Sy.needB z Sy.s_rp ts4 with f5 | ⟨u5, ts5⟩
  ·obtain ⟨rfl, HK5⟩ := HD.no hx5
   have HKE := hid ((show Kp b w _ by repeat (with_reducible (first | exact HKA4.out | apply Kp.drew))).trans HK5.out)
   go_wp2_with fail
   exact ⟨rfl, DRes.err (by simp [Sy.tatomB, Sy.iteB_takes, Sy.bnd, HL1.out, hv0, H4.out, hx5]) HKE.out⟩
  have H5 := hid hx5
  have hn5 : ts5.length < N := Nat.lt_of_le_of_lt (le_need (Nat.le_refl _) _ _ hx5) hn4
  obtain ⟨rfl, HR5, HK5⟩ := HD.yes hx5
  clear hx5 HD
  have ht5 := HK5.out.size
  have HV4_5 := hid ((show Vr _ w4.heap.size w3.heap.size y4 a4 l4 c4 by repeat (with_reducible (first | exact HV4.out | apply Vr.drew))).kp HK5.out (by omega) (by omega))
  have HB2_5 := hid ((show Blk _ w2.heap.size [_, _, _, _] by repeat (with_reducible (first | exact HB2_4.out | apply Blk.drew))).kp HK5.out (by omega))
  have HRS5 := hid ((show Blk _ w.heap.size [_, _, _, _, _] by repeat (with_reducible (first | exact HRS4.out | apply Blk.drew))).kp HK5.out (by omega))
  have HKA5 := hid ((show Kp b w _ by repeat (with_reducible (first | exact HKA4.out | apply Kp.drew))).trans HK5.out)
  obtain ⟨⟨q1_0, q1_1, q1_2, q1_3, q1_4⟩, q1_5, q1_6, q1_7, q1_8, q1_9⟩ := blk5 HV4_5.out.cells
  obtain ⟨⟨u2_0, u2_1, u2_2, u2_3, u2_4⟩, u2_5, u2_6, u2_7, u2_8, u2_9⟩ := blk5 HRS5.out
  go_wp2_with fail
  refine bodyPost_ret (v := .agg #[.int .i64 y4.kind, .int .i64 y4.pos, .string ⟨y4.name.toArray⟩, .int .i64 y4.num, .slice a4 l4 c4]) (by simp [results, Tryz.results148, go_sem, u2_0, u2_1, u2_2, u2_3, u2_4]) rfl ?_
  exact dres_fin (lo := W0.heap.size) y4 ts5 (HV4_5.out.kids.free (by omega)) HR5.out HKA5.out (by simp [Sy.tatomB, Sy.iteB_takes, Sy.bnd, HL1.out, hv0, H4.out, H5.out]) (by omega) (by omega) (by omega) _ _ _ _ rfl rfl rfl rfl _ _ _ _ _
 | false =>
  cases hv1 : (t1.text == Sy.w_int) with
  | true =>
   have hu0 : (t1.text == [40]) = false := hv0
   have hu1 : (t1.text == [105, 110, 116]) = true := hv1
   go_wp2_with fail
   rw [HW2.out]
   obtain ⟨q0, q1, q2, q3, q4, q5, q6, q7⟩ := blk4 HB2.out
   go_wp2_with fail
   have HTS1 : Hid (ts = t1 :: ts.tail) := look_some HL1.out (.inl (text_ne hv1 (by decide)))
   have hlt1 : ts.tail.length < N := by simp only [List.length_tail]; omega
   refine (dtake _ b z t1 ts.tail e d (by rw [← HTS1.out]; repeat (with_reducible (first | exact HRd2.out | apply Dr.drew)))).mono ?_
   intro en w3 HD
   obtain ⟨rfl, HR3, HK3⟩ := HD.yes rfl
   dsimp only [tkV]
   clear HD
   have ht3 := HK3.out.size
   have HB2_3 := hid ((show Blk _ w2.heap.size [_, _, _, _] by repeat (with_reducible (first | exact HB2.out | apply Blk.drew))).kp HK3.out (by omega))
   have HRS3 := hid ((show Blk _ w.heap.size [_, _, _, _, _] by repeat (with_reducible (first | exact HRS2.out | apply Blk.drew))).kp HK3.out (by omega))
   have HKA3 := hid ((show Kp b w _ by repeat (with_reducible (first | exact HKA2.out | apply Kp.drew))).trans HK3.out)
   obtain ⟨q0, q1, q2, q3, q4, q5, q6, q7⟩ := blk4 HB2_3.out
   obtain ⟨⟨u1_0, u1_1, u1_2, u1_3, u1_4⟩, u1_5, u1_6, u1_7, u1_8, u1_9⟩ := blk5 HRS3.out
   go_wp2_with fail
   refine bodyPost_ret (v := .agg #[.int .i64 24, .int .i64 t1.pos, .string ⟨([] : List UInt8).toArray⟩, .int .i64 0, .slice none 0 0]) (by simp [results, Tryz.results148, go_sem, u1_0, u1_1, u1_2, u1_3, u1_4]) rfl ?_
   exact dres_fin (lo := W0.heap.size) (Sy.nd 24 t1.pos []) ts.tail .nil HR3.out HKA3.out (by simp [Sy.tatomB, Sy.iteB_takes, Sy.bnd, HL1.out, hv0, hv1]) (by omega) (by omega) (by omega) _ _ _ _ rfl rfl rfl rfl _ _ _ _ _
  | false =>
   cases hv2 : (t1.text == Sy.w_bool) with
   | true =>
    have hu0 : (t1.text == [40]) = false := hv0
    have hu1 : (t1.text == [105, 110, 116]) = false := hv1
    have hu2 : (t1.text == [98, 111, 111, 108]) = true := hv2
    go_wp2_with fail
    rw [HW2.out]
    obtain ⟨q0, q1, q2, q3, q4, q5, q6, q7⟩ := blk4 HB2.out
    go_wp2_with fail
    have HTS1 : Hid (ts = t1 :: ts.tail) := look_some HL1.out (.inl (text_ne hv2 (by decide)))
    have hlt1 : ts.tail.length < N := by simp only [List.length_tail]; omega
    refine (dtake _ b z t1 ts.tail e d (by rw [← HTS1.out]; repeat (with_reducible (first | exact HRd2.out | apply Dr.drew)))).mono ?_
    intro en w3 HD
    obtain ⟨rfl, HR3, HK3⟩ := HD.yes rfl
    dsimp only [tkV]
    clear HD
    have ht3 := HK3.out.size
    have HB2_3 := hid ((show Blk _ w2.heap.size [_, _, _, _] by repeat (with_reducible (first | exact HB2.out | apply Blk.drew))).kp HK3.out (by omega))
    have HRS3 := hid ((show Blk _ w.heap.size [_, _, _, _, _] by repeat (with_reducible (first | exact HRS2.out | apply Blk.drew))).kp HK3.out (by omega))
    have HKA3 := hid ((show Kp b w _ by repeat (with_reducible (first | exact HKA2.out | apply Kp.drew))).trans HK3.out)
    obtain ⟨q0, q1, q2, q3, q4, q5, q6, q7⟩ := blk4 HB2_3.out
    obtain ⟨⟨u1_0, u1_1, u1_2, u1_3, u1_4⟩, u1_5, u1_6, u1_7, u1_8, u1_9⟩ := blk5 HRS3.out
    go_wp2_with fail
    refine bodyPost_ret (v := .agg #[.int .i64 25, .int .i64 t1.pos, .string ⟨([] : List UInt8).toArray⟩, .int .i64 0, .slice none 0 0]) (by simp [results, Tryz.results148, go_sem, u1_0, u1_1, u1_2, u1_3, u1_4]) rfl ?_
    exact dres_fin (lo := W0.heap.size) (Sy.nd 25 t1.pos []) ts.tail .nil HR3.out HKA3.out (by simp [Sy.tatomB, Sy.iteB_takes, Sy.bnd, HL1.out, hv0, hv1, hv2]) (by omega) (by omega) (by omega) _ _ _ _ rfl rfl rfl rfl _ _ _ _ _
   | false =>
    cases hv3 : (t1.text == Sy.w_unit) with
    | true =>
     have hu0 : (t1.text == [40]) = false := hv0
     have hu1 : (t1.text == [105, 110, 116]) = false := hv1
     have hu2 : (t1.text == [98, 111, 111, 108]) = false := hv2
     have hu3 : (t1.text == [117, 110, 105, 116]) = true := hv3
     go_wp2_with fail
     rw [HW2.out]
     obtain ⟨q0, q1, q2, q3, q4, q5, q6, q7⟩ := blk4 HB2.out
     go_wp2_with fail
     have HTS1 : Hid (ts = t1 :: ts.tail) := look_some HL1.out (.inl (text_ne hv3 (by decide)))
     have hlt1 : ts.tail.length < N := by simp only [List.length_tail]; omega
     refine (dtake _ b z t1 ts.tail e d (by rw [← HTS1.out]; repeat (with_reducible (first | exact HRd2.out | apply Dr.drew)))).mono ?_
     intro en w3 HD
     obtain ⟨rfl, HR3, HK3⟩ := HD.yes rfl
     dsimp only [tkV]
     clear HD
     have ht3 := HK3.out.size
     have HB2_3 := hid ((show Blk _ w2.heap.size [_, _, _, _] by repeat (with_reducible (first | exact HB2.out | apply Blk.drew))).kp HK3.out (by omega))
     have HRS3 := hid ((show Blk _ w.heap.size [_, _, _, _, _] by repeat (with_reducible (first | exact HRS2.out | apply Blk.drew))).kp HK3.out (by omega))
     have HKA3 := hid ((show Kp b w _ by repeat (with_reducible (first | exact HKA2.out | apply Kp.drew))).trans HK3.out)
     obtain ⟨q0, q1, q2, q3, q4, q5, q6, q7⟩ := blk4 HB2_3.out
     obtain ⟨⟨u1_0, u1_1, u1_2, u1_3, u1_4⟩, u1_5, u1_6, u1_7, u1_8, u1_9⟩ := blk5 HRS3.out
     go_wp2_with fail
     refine bodyPost_ret (v := .agg #[.int .i64 26, .int .i64 t1.pos, .string ⟨([] : List UInt8).toArray⟩, .int .i64 0, .slice none 0 0]) (by simp [results, Tryz.results148, go_sem, u1_0, u1_1, u1_2, u1_3, u1_4]) rfl ?_
     exact dres_fin (lo := W0.heap.size) (Sy.nd 26 t1.pos []) ts.tail .nil HR3.out HKA3.out (by simp [Sy.tatomB, Sy.iteB_takes, Sy.bnd, HL1.out, hv0, hv1, hv2, hv3]) (by omega) (by omega) (by omega) _ _ _ _ rfl rfl rfl rfl _ _ _ _ _
    | false =>
     have hu0 : (t1.text == [40]) = false := hv0
     have hu1 : (t1.text == [105, 110, 116]) = false := hv1
     have hu2 : (t1.text == [98, 111, 111, 108]) = false := hv2
     have hu3 : (t1.text == [117, 110, 105, 116]) = false := hv3
     have HWR : Hid (Sy.wrongF z ts = (4, t1.pos)) := by simp [Hid, Sy.wrongF, HL1.out]
     go_wp2_with fail
     rw [HW2.out]
     obtain ⟨q0, q1, q2, q3, q4, q5, q6, q7⟩ := blk4 HB2.out
     go_wp2_with fail
     refine (dwrong _ b z ts e d (by repeat (with_reducible (first | exact HRd2.out | apply Dr.drew)))).mono ?_
     rintro en wz ⟨rfl, HKz⟩
     rw [HWR.out]
     have HKE := hid ((show Kp b w _ by repeat (with_reducible (first | exact HKA2.out | apply Kp.drew))).trans HKz.out)
     go_wp2_with fail
     exact ⟨rfl, DRes.err (by simp [Sy.tatomB, Sy.iteB_takes, Sy.bnd, HL1.out, hv0, hv1, hv2, hv3]) HKE.out⟩
end Go.Proofs.YtoajnlhegallpaaGreatDoor
