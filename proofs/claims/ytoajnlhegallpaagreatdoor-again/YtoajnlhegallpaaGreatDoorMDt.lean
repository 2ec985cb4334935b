/-
  What the program's rules do: handler.
-/
import Derived.Test.YtoajnlhegallpaaGreatDoorMDq
set_option linter.unusedVariables false
set_option linter.unusedSimpArgs false
set_option maxRecDepth 100000
set_option maxHeartbeats 4000000
namespace Go.Proofs.YtoajnlhegallpaaGreatDoor
open Go.RowKit

structure Hw (w : World) (b A R lo : Nat) (z : Sy.Env) (ts : List Lx.Tk) (e d : Nat) (k p nn : Int) (x : ByteArray) (v : Value) (ls : List (Sy.Tr × Value)) (W : World) : Prop where
 cells : Blk W A [.int .i64 k, .int .i64 p, .string x, .int .i64 nn, v]
 row : RowS W lo v ls
 res : ∃ r0 r1 r2 r3 r4, Blk W R [r0, r1, r2, r3, r4]
 rd : Dr W b z ts e d
 kp : Kp b w W
 size : lo ≤ W.heap.size
section
variable {w W W' : World} {b A R lo e d : Nat} {z : Sy.Env} {ts us : List Lx.Tk} {k p nn : Int} {x : ByteArray} {v : Value} {ls : List (Sy.Tr × Value)}
theorem Hw.step (h : Hw w b A R lo z ts e d k p nn x v ls W) (hr : Dr W' b z us e d) (hk : Kp b W W') (h1 : A ≠ b) (h2 : R ≠ b) (h3 : b < lo) : Hw w b A R lo z us e d k p nn x v ls W' := by
 obtain ⟨h4, h5, ⟨r0, r1, r2, r3, r4, h7⟩, _, h9, h10⟩ := h
 exact ⟨h4.kp hk h1, h5.kp hk h3, ⟨r0, r1, r2, r3, r4, h7.kp hk h2⟩, hr, h9.trans hk, Nat.le_trans h10 hk.size⟩
theorem Hw.past (h : Hw w b A R lo z ts e d k p nn x v ls W) (hk : Below W.heap.size W W') : Hw w b A R lo z ts e d k p nn x v ls W' := by
 obtain ⟨h4, h5, ⟨r0, r1, r2, r3, r4, h7⟩, h8, h9, h10⟩ := h
 exact ⟨h4.past hk, h5.past hk, ⟨r0, r1, r2, r3, r4, h7.past hk⟩, h8.below hk, h9.below hk, Nat.le_trans h10 hk.size⟩
theorem Hw.alloc (h : Hw w b A R lo z ts e d k p nn x v ls W) (o : Obj) : Hw w b A R lo z ts e d k p nn x v ls (W.alloc o) := h.past ((Below.refl _ _).alloc (Nat.le_refl _) o)
theorem Hw.drew (h : Hw w b A R lo z ts e d k p nn x v ls W) : Hw w b A R lo z ts e d k p nn x v ls W.drew := h.past (Below.refl _ _).drew
theorem RowS.set {v2 : Value} (h : RowS W lo v ls) (hA : A < lo) (i : Nat) : RowS (W.setCell ⟨A, i, none⟩ v2) lo v ls := h.heap (by simp) (fun g hg => Below.heap_setCell _ _ _ _ (show g ≠ A by omega))
theorem Hw.app {g cap : Nat} {T : Sy.Tr} {kv : Value} (h : Hw w b A R lo z ts e d k p nn x v ls W) (hA : A < lo) (hR : R < lo) (hb : b < A) (hw : w.heap.size ≤ A) (hRA : R ≠ A)
  (ho : W'.ownsRow lo 24 5 (.slice (some ⟨g, 0, none⟩) (ls.length + 1) cap) (ls.length + 1) (rowCells ls ++ nodeCells T kv)) (hg : W.grownBy W' v.ownBlock) (hat : v.ownBlock = some g ∨ g = W.heap.size) (hk : Kids W (Fo lo v) kv T.kids) :
  Hw w b A R lo z ts e d k p nn x (.slice (some ⟨g, 0, none⟩) (ls.length + 1) cap) (ls ++ [(T, kv)]) (W'.setCell ⟨A, 4, none⟩ (.slice (some ⟨g, 0, none⟩) (ls.length + 1) cap)) := by
 obtain ⟨h4, h5, ⟨r0, r1, r2, r3, r4, h7⟩, h8, h9, h10⟩ := h
 have hne : ∀ q, q < lo → some q ≠ v.ownBlock := fun q hq e0 => by
  have := (h5.own.lt q e0.symm).1
  omega
 have h4' := (h4.grown hg (hne A hA)).set 4 (by simp) (.slice (some ⟨g, 0, none⟩) (ls.length + 1) cap)
 exact ⟨h4', (h5.app ho hg hat hk).set hA 4, ⟨r0, r1, r2, r3, r4, (h7.grown hg (hne R hR)).other hRA _ _⟩, (h8.grown hg (fun q hq => hne q (by omega))).other hb _ _, (h9.grown hg (fun q hq => hne q (by omega))).other hw _ _, by have := hg.size; simp; omega⟩
end

theorem dhandler (N e d : Nat) (hN : N ≤ 90000) (z : Sy.Env) (E : List Lx.Tk → Sy.R Sy.Tr) (hE : EOK N e d z E) : ROK1 106 N e d z (Sy.handleB z N E) := by
 obtain ⟨i0, hi, hiz0, hiz1, hiz2⟩ := info_parts Tryz.info36
 have hRC := dreturnClause N e d z E hE
 have hCL := dclause N e d z E hE
 intro w b t0 tl h hn
 have H := hid h
 have hbR : b < w.heap.size := h.lt
 clear h
 go_enter Tryz.func106, Tryz.ntmps106
 go_wp2_with fail
 obtain ⟨W0, hW0, HI⟩ := jn1 H.out 24
 rw [hW0]
 clear hW0
 have hz0 := HI.out.size
 have hlt0 : tl.length < N := by simp only [List.length_cons] at hn; omega
 obtain ⟨hf0, hf1, hf2, hf3⟩ := fld_tk (.int .i64 t0.kind) (.int .i64 t0.pos) (.string ⟨t0.text.toArray⟩) (.int .i64 t0.num)
 refine (dlook _ b z (t0 :: tl) e d (by repeat (with_reducible (first | exact HI.out.rd | apply Dr.drew)))).mono ?_
 intro en w1 HD
 obtain ⟨rfl, HR1, HK1⟩ := HD.yes (a := t0) (ts := t0 :: tl) rfl
 dsimp only [tkV]
 clear HD
 obtain ⟨W1, hW1, HB1, HRd1, HKp1, hs1, hu1⟩ := jblk_new (.int .i64 20) (.int .i64 t0.pos) (.string ⟨#[]⟩) (.int .i64 0) (.slice none 0 0) HR1.out HK1.out 24
 have HRS1 := hid ((show Blk _ w.heap.size [_, _, _, _, _] by repeat (with_reducible (first | exact HI.out.one | apply Blk.drew))).kp HKp1.out (by omega))
 have HKA1 := hid ((show Kp b w _ by repeat (with_reducible (first | exact HI.out.kp | apply Kp.drew))).trans HKp1.out)
 have HWW := hid hW1
 clear hW1
 go_wp2_with fail
 rw [HWW.out]
 have hneA : ¬ w1.heap.size = w.heap.size := by omega
 have hneB : ¬ w.heap.size = w1.heap.size := by omega
 refine (dtake _ b z t0 tl e d (by repeat (with_reducible (first | exact HRd1.out | apply Dr.drew)))).mono ?_
 intro en w2 HD
 obtain ⟨rfl, HR2, HK2⟩ := HD.yes rfl
 dsimp only [tkV]
 clear HD
 have ht2 := HK2.out.size
 have HBn_2 := hid ((show Blk _ w1.heap.size [_, _, _, _, _] by repeat (with_reducible (first | exact HB1.out | apply Blk.drew))).kp HK2.out (by omega))
 have HRS2 := hid ((show Blk _ w.heap.size [_, _, _, _, _] by repeat (with_reducible (first | exact HRS1.out | apply Blk.drew))).kp HK2.out (by omega))
 have HKA2 := hid ((show Kp b w _ by repeat (with_reducible (first | exact HKA1.out | apply Kp.drew))).trans HK2.out)
 cases hv : (t0.text == Sy.w_shallow) with
 | true =>
  have hu : (t0.text == [115, 104, 97, 108, 108, 111, 119]) = true := hv
  obtain ⟨⟨b1_0, b1_1, b1_2, b1_3, b1_4⟩, b1_5, b1_6, b1_7, b1_8, b1_9⟩ := blk5 HBn_2.out
  obtain ⟨V, hV, HBV, HRV, HKV, HSV, hzV⟩ := jset HBn_2.out HR2.out HKA2.out HRS2.out (by omega) (by omega) (by omega) 3 (by decide) (.int .i64 1)
  have HVV := hid hV
  clear hV
  have HBW : Hid (Blk V w1.heap.size [.int .i64 20, .int .i64 t0.pos, .string ⟨#[]⟩, .int .i64 1, .slice none 0 0]) := HBV
  go_wp2_with fail
  rw [HVV.out]
  have hAlo : w1.heap.size < V.heap.size := Blk.lt HBW.out
  refine (hE.calls _ b tl (by repeat (with_reducible (first | exact HRV.out | apply Dr.drew))) hlt0).mono ?_
  intro en w3 HD
  rcases hx3 : E tl with f3 | ⟨y3, ts3⟩
  ·obtain ⟨rfl, HK3⟩ := HD.no hx3
   have HKE := hid ((show Kp b w _ by repeat (with_reducible (first | exact HKV.out | apply Kp.drew))).trans HK3.out)
   go_wp2_with fail
   exact ⟨rfl, DRes.err (by simp [Sy.handleB, Sy.takeB, Sy.lookB, Sy.iteB_takes, Sy.bnd, hv, hx3]) HKE.out⟩
  have H3 := hid hx3
  have hn3 : ts3.length < N := Nat.lt_of_le_of_lt (hE.le _ _ (Nat.le_refl _) _ _ hx3) hlt0
  obtain ⟨a3, l3, c3, rfl, HKd3, HR3, HK3⟩ := HD.yes hx3
  clear hx3 HD
  obtain ⟨W3, hW3, HV3, HRd3, HKp3, hs3, ht3⟩ := jvar_new HKd3.out HR3.out HK3.out 24
  have HBn_3 := hid ((show Blk _ w1.heap.size [_, _, _, _, _] by repeat (with_reducible (first | exact HBW.out | apply Blk.drew))).kp HKp3.out (by omega))
  have HRS3 := hid ((show Blk _ w.heap.size [_, _, _, _, _] by repeat (with_reducible (first | exact HSV.out | apply Blk.drew))).kp HKp3.out (by omega))
  have HKA3 := hid ((show Kp b w _ by repeat (with_reducible (first | exact HKV.out | apply Kp.drew))).trans HKp3.out)
  have hne3 : ¬ w3.heap.size = w.heap.size := by omega
  have hno3 : ¬ w.heap.size = w3.heap.size := by omega
  go_wp2_with fail
  try rw [hW3]
  clear hW3
  refine (dneed _ b z ts3 e d Sy.w_with (by decide) (by repeat (with_reducible (first | exact HRd3.out | apply Dr.drew)))).mono ?_
  intro en w4 HD
  rcases hx4 : Sy.needB z Sy.w_with ts3 with f4 | ⟨u4, ts4⟩
  ·obtain ⟨rfl, HK4⟩ := HD.no hx4
   have HKE := hid ((show Kp b w _ by repeat (with_reducible (first | exact HKA3.out | apply Kp.drew))).trans HK4.out)
   go_wp2_with fail
   exact ⟨rfl, DRes.err (by simp [Sy.handleB, Sy.takeB, Sy.lookB, Sy.iteB_takes, Sy.bnd, hv, H3.out, hx4]) HKE.out⟩
  have H4 := hid hx4
  have hn4 : ts4.length < N := Nat.lt_of_le_of_lt (le_need (Nat.le_refl _) _ _ hx4) hn3
  obtain ⟨rfl, HR4, HK4⟩ := HD.yes hx4
  clear hx4 HD
  have ht4 := HK4.out.size
  have HV3_4 := hid ((show Vr _ w3.heap.size V.heap.size y3 a3 l3 c3 by repeat (with_reducible (first | exact HV3.out | apply Vr.drew))).kp HK4.out (by omega) (by omega))
  have HBn_4 := hid ((show Blk _ w1.heap.size [_, _, _, _, _] by repeat (with_reducible (first | exact HBn_3.out | apply Blk.drew))).kp HK4.out (by omega))
  have HRS4 := hid ((show Blk _ w.heap.size [_, _, _, _, _] by repeat (with_reducible (first | exact HRS3.out | apply Blk.drew))).kp HK4.out (by omega))
  have HKA4 := hid ((show Kp b w _ by repeat (with_reducible (first | exact HKA3.out | apply Kp.drew))).trans HK4.out)
  go_wp2_with fail
  refine (dneed _ b z ts4 e d Sy.s_lb (by decide) (by repeat (with_reducible (first | exact HR4.out | apply Dr.drew)))).mono ?_
  intro en w5 HD
  rcases hx5 : Sy.needB z Sy.s_lb ts4 with f5 | ⟨u5, ts5⟩
  ·obtain ⟨rfl, HK5⟩ := HD.no hx5
   have HKE := hid ((show Kp b w _ by repeat (with_reducible (first | exact HKA4.out | apply Kp.drew))).trans HK5.out)
   go_wp2_with fail
   exact ⟨rfl, DRes.err (by simp [Sy.handleB, Sy.takeB, Sy.lookB, Sy.iteB_takes, Sy.bnd, hv, H3.out, H4.out, hx5]) HKE.out⟩
  have H5 := hid hx5
  have hn5 : ts5.length < N := Nat.lt_of_le_of_lt (le_need (Nat.le_refl _) _ _ hx5) hn4
  obtain ⟨rfl, HR5, HK5⟩ := HD.yes hx5
  clear hx5 HD
  have ht5 := HK5.out.size
  have HV3_5 := hid ((show Vr _ w3.heap.size V.heap.size y3 a3 l3 c3 by repeat (with_reducible (first | exact HV3_4.out | apply Vr.drew))).kp HK5.out (by omega) (by omega))
  have HBn_5 := hid ((show Blk _ w1.heap.size [_, _, _, _, _] by repeat (with_reducible (first | exact HBn_4.out | apply Blk.drew))).kp HK5.out (by omega))
  have HRS5 := hid ((show Blk _ w.heap.size [_, _, _, _, _] by repeat (with_reducible (first | exact HRS4.out | apply Blk.drew))).kp HK5.out (by omega))
  have HKA5 := hid ((show Kp b w _ by repeat (with_reducible (first | exact HKA4.out | apply Kp.drew))).trans HK5.out)
  obtain ⟨⟨q2_0, q2_1, q2_2, q2_3, q2_4⟩, q2_5, q2_6, q2_7, q2_8, q2_9⟩ := blk5 HV3_5.out.cells
  obtain ⟨⟨b3_0, b3_1, b3_2, b3_3, b3_4⟩, b3_5, b3_6, b3_7, b3_8, b3_9⟩ := blk5 HBn_5.out
  go_wp2_with fail
  rcases hx6 : Sy.retB z E ts5 with f6 | ⟨y6, ts6⟩
  ·skip
   refine wp_region_held_drew (S := (fun w' => w'.cell? ⟨w3.heap.size, 0, none⟩ = some (.int .i64 y3.kind) ∧ w'.cell? ⟨w3.heap.size, 1, none⟩ = some (.int .i64 y3.pos) ∧ w'.cell? ⟨w3.heap.size, 2, none⟩ = some (.string ⟨y3.name.toArray⟩) ∧ w'.cell? ⟨w3.heap.size, 3, none⟩ = some (.int .i64 y3.num) ∧ w'.cell? ⟨w3.heap.size, 4, none⟩ = some (.slice a3 l3 c3))) (by kernel_rfl) (by first | trivial | (dsimp only; go_keep)) (fun hHeld => ?_)
   refine wpAnyH_take (i := 0) (v := ?vv0_1) rfl (by kernel_rfl) (by kernel_rfl) (by kernel_rfl) (fun _ _ _ h => h) (Or.inl ⟨by rfl, ?yy0_1⟩) (by assumption) ?rr0_1
   case yy0_1 => (intro w hSw; (try dsimp only at hSw); go_simp; (try with_reducible rfl))
   try simp only [Act.put, List.setIfInBounds_toArray, List.set_cons_zero, List.set_cons_succ]
   refine wpAnyH_take (i := 1) (v := ?vv1_1) rfl (by kernel_rfl) (by kernel_rfl) (by kernel_rfl) (fun _ _ _ h => h) (Or.inl ⟨by rfl, ?yy1_1⟩) (by assumption) ?rr1_1
   case yy1_1 => (intro w hSw; (try dsimp only at hSw); go_simp; (try with_reducible rfl))
   try simp only [Act.put, List.setIfInBounds_toArray, List.set_cons_zero, List.set_cons_succ]
   refine wpAnyH_ready (rs := [2]) (by kernel_rfl) (by simp) (AllReadyH.cons rfl (fun K hK => ?_) AllReadyH.nil)
   go_simp
   refine (hRC _ b ts5 (by repeat (with_reducible (first | exact HR5.out | apply Dr.drew))) hn5).mono ?_
   intro en w6 HD
   obtain ⟨rfl, HK6⟩ := HD.no hx6
   have HKE := hid ((show Kp b w _ by repeat (with_reducible (first | exact HKA5.out | apply Kp.drew))).trans HK6.out)
   exact ⟨rfl, DRes.err (by simp [Sy.handleB, Sy.takeB, Sy.lookB, Sy.iteB_takes, Sy.bnd, hv, H3.out, H4.out, H5.out, hx6]) HKE.out⟩
  have H6 := hid hx6
  have hn6 : ts6.length < N := Nat.lt_of_le_of_lt (le_ret (fun ts h => hE.le _ ts h) _ (Nat.le_refl _) _ _ hx6) hn5
  clear hx6
  have hnv : ¬ w3.heap.size = w1.heap.size := by omega
  have hnv2 : ¬ w1.heap.size = w3.heap.size := by omega
  go_region_held3 (fun w' => w'.cell? ⟨w3.heap.size, 0, none⟩ = some (.int .i64 y3.kind) ∧ w'.cell? ⟨w3.heap.size, 1, none⟩ = some (.int .i64 y3.pos) ∧ w'.cell? ⟨w3.heap.size, 2, none⟩ = some (.string ⟨y3.name.toArray⟩) ∧ w'.cell? ⟨w3.heap.size, 3, none⟩ = some (.int .i64 y3.num) ∧ w'.cell? ⟨w3.heap.size, 4, none⟩ = some (.slice a3 l3 c3)) (go_keep) (first
   | (go_at_call 132; refine (hRC _ b ts5 (by repeat (with_reducible (first | exact HR5.out | apply Dr.drew))) hn5).mono ?_; intro en w6 HD; obtain ⟨a6, l6, c6, rfl, HKd6, HR6, HK6⟩ := HD.yes H6.out; have ht6 := HK6.out.size; (try simp at ht6); have HV3_6 := hid ((show Vr _ w3.heap.size V.heap.size y3 a3 l3 c3 by repeat (with_reducible (first | exact HV3_5.out | apply Vr.drew))).kp HK6.out (by omega) (by omega)); obtain ⟨⟨q4_0, q4_1, q4_2, q4_3, q4_4⟩, q4_5, q4_6, q4_7, q4_8, q4_9⟩ := blk5 HV3_6.out.cells; have HBn_6 := hid ((show Blk _ w1.heap.size [_, _, _, _, _] by repeat (with_reducible (first | exact HBn_5.out | apply Blk.drew))).kp HK6.out (by omega)); have HRS6 := hid ((show Blk _ w.heap.size [_, _, _, _, _] by repeat (with_reducible (first | exact HRS5.out | apply Blk.drew))).kp HK6.out (by omega)); have HKA6 := hid ((show Kp b w _ by repeat (with_reducible (first | exact HKA5.out | apply Kp.drew))).trans HK6.out); obtain ⟨⟨u5_0, u5_1, u5_2, u5_3, u5_4⟩, u5_5, u5_6, u5_7, u5_8, u5_9⟩ := blk5 HRS6.out; have hlw6 : w.heap.size < w6.heap.size := Blk.lt HRS6.out; have hlv3_6 : w3.heap.size < w6.heap.size := Blk.lt HV3_6.out.cells; have HY6 : Hid (Kids w6 (fun g => w5.heap.size ≤ g) (.slice a6 l6 c6) y6.kids) := HKd6.out.weak (fun g hg _ => by (try simp at hg); omega); obtain ⟨⟨s0, s1, s2, s3, s4⟩, s5, s6, s7, s8, s9⟩ := blk5 HBn_6.out; have hlA : w1.heap.size < w6.heap.size := Blk.lt HBn_6.out))
  have HX0 : Hid (Hw w b w1.heap.size w.heap.size (V.heap.size) z ts6 e d 20 t0.pos 1 ⟨#[]⟩ (.slice (some ⟨w6.heap.size, 0, none⟩) 2 2) [(y3, .slice a3 l3 c3), (y6, .slice a6 l6 c6)] ((w6.setCell ⟨w1.heap.size, 4, none⟩ (.slice (some ⟨w6.heap.size, 0, none⟩) 2 2)).alloc (.cells #[.int .i64 y3.kind, .int .i64 y3.pos, .string ⟨y3.name.toArray⟩, .int .i64 y3.num, .slice a3 l3 c3, .int .i64 y6.kind, .int .i64 y6.pos, .string ⟨y6.name.toArray⟩, .int .i64 y6.num, .slice a6 l6 c6] 24))) := by
   refine ⟨(HBn_6.out.set 4 (by simp) _).alloc _, rowS_lit [(y3, .slice a3 l3 c3), (y6, .slice a6 l6 c6)] (by simp) w6.heap.size (by simp) #[.int .i64 y3.kind, .int .i64 y3.pos, .string ⟨y3.name.toArray⟩, .int .i64 y3.num, .slice a3 l3 c3, .int .i64 y6.kind, .int .i64 y6.pos, .string ⟨y6.name.toArray⟩, .int .i64 y6.num, .slice a6 l6 c6] rfl 2 rfl (by decide) (by omega) ?_, ⟨_, _, _, _, _, (HRS6.out.other (by omega) _ _).alloc _⟩, (HR6.out.other (by omega) _ _).alloc _, (HKA6.out.other (by omega) _ _).alloc _, by simp; omega⟩
   intro p hp
   simp only [List.mem_cons, List.not_mem_nil, or_false] at hp
   rcases hp with rfl | rfl
   ·exact (HV3_6.out.kids.free (hi := V.heap.size) (by omega)).carry (fun g hg _ => Below.heap_setCell _ _ _ _ (show g ≠ w1.heap.size by omega)) (fun g hg _ => hg)
   ·exact (HY6.out.weak (F' := fun g => V.heap.size ≤ g) (fun g hg _ => Nat.le_trans (by omega) hg)).carry (fun g hg _ => Below.heap_setCell _ _ _ _ (show g ≠ w1.heap.size by omega)) (fun g hg _ => hg)
  go_wp2_with fail
  go_loopg [] N (fun n wr => ∃ (vr : Value) (ls : List (Sy.Tr × Value)) (tr : List Lx.Tk), Hid (Hw w b w1.heap.size w.heap.size (V.heap.size) z tr e d 20 t0.pos 1 ⟨#[]⟩ vr ls wr) ∧ Hid (Sy.clausesB z E n (ls.map (·.1)) tr = Sy.clausesB z E N [y3, y6] ts6) ∧ Hid (tr.length < n) ∧ tr.length < N ∧ ls.length + n = N + 2 ∧ ls ≠ [])
  case atStart => exact ⟨_, [(y3, .slice a3 l3 c3), (y6, .slice a6 l6 c6)], ts6, HX0, hid rfl, hn6, hn6, by simp; omega, by simp⟩
  case round =>
   obtain ⟨vr, ls, tr, HXr, HE, HM, hnr, hlen, hls0⟩ := hrel
   obtain ⟨m, hm⟩ : ∃ m, gk = m + 1 := ⟨gk - 1, by have := HM.out; omega⟩
   subst hm
   have hAr : w1.heap.size < wr.heap.size := Blk.lt HXr.out.cells
   have hzr := HXr.out.size
   have HLB := hid (len_bytes (n := ls.length) (N := N + 3) (by omega) (by omega))
   go_wp2_with fail
   refine (dtakes _ b z tr e d Sy.s_bar (by decide) HXr.out.rd).mono ?_
   intro en wt HD
   rcases hxt : Sy.takesB z Sy.s_bar tr with ft | ⟨vt, tt⟩
   ·obtain ⟨rfl, HKt⟩ := HD.no hxt
    have HKE := hid (HXr.out.kp.trans HKt.out)
    have HCLx : Hid (Sy.clausesB z E N [y3, y6] ts6 = .error ft) := by rw [Hid, ← HE.out]; simp [Sy.clausesB, Sy.iteB_takes, Sy.bnd, hxt]
    go_wp2_with fail
    exact ⟨rfl, DRes.err (by simp [Sy.handleB, Sy.takeB, Sy.lookB, Sy.bnd, hv, H3.out, H4.out, H5.out, H6.out, HCLx.out]) HKE.out⟩
   have HT := hid hxt
   obtain ⟨rfl, HRt, HKt⟩ := HD.yes hxt
   clear hxt HD
   have htt := HKt.out.size
   have hnt : tt.length < N := Nat.lt_of_le_of_lt (le_takes (Nat.le_refl _) _ _ HT.out) hnr
   have HX := hid (HXr.out.step HRt.out HKt.out (by omega) (by omega) (by omega))
   cases vt with
   | false =>
    have HCLx : Hid (Sy.clausesB z E N [y3, y6] ts6 = .ok (ls.map (·.1), tt)) := by rw [Hid, ← HE.out]; simp [Sy.clausesB, Sy.iteB_takes, Sy.bnd, HT.out]
    go_wp2_with fail
    refine (dneed _ b z tt e d Sy.s_rb (by decide) HX.out.rd).mono ?_
    intro en wn HD
    rcases hxn : Sy.needB z Sy.s_rb tt with fn | ⟨un, tn⟩
    ·obtain ⟨rfl, HKn⟩ := HD.no hxn
     have HKE := hid (HX.out.kp.trans HKn.out)
     go_wp2_with fail
     exact ⟨rfl, DRes.err (by simp [Sy.handleB, Sy.takeB, Sy.lookB, Sy.bnd, hv, H3.out, H4.out, H5.out, H6.out, HCLx.out, hxn]) HKE.out⟩
    have HN := hid hxn
    obtain ⟨rfl, HRn, HKn⟩ := HD.yes hxn
    clear hxn HD
    have HX3 := hid (HX.out.step HRn.out HKn.out (by omega) (by omega) (by omega))
    obtain ⟨gf, cf, hvf⟩ := HX3.out.row.form hls0
    subst hvf
    have HKF := hid (HX3.out.row.kidsOf hls0 rfl)
    obtain ⟨r0, r1, r2, r3, r4, hRf⟩ := HX3.out.res
    obtain ⟨⟨z0, z1, z2, z3, z4⟩, z5, z6, z7, z8, z9⟩ := blk5 hRf
    obtain ⟨⟨c0, c1, c2, c3, c4⟩, c5, c6, c7, c8, c9⟩ := blk5 HX3.out.cells
    go_wp2_with fail
    refine bodyPost_ret (v := .agg #[.int .i64 20, .int .i64 t0.pos, .string ⟨#[]⟩, .int .i64 1, .slice (some ⟨gf, 0, none⟩) ls.length cf]) (by simp [results, Tryz.results106, go_sem, z0, z1, z2, z3, z4]) rfl ?_
    exact dres_fin (lo := V.heap.size) (.mk 20 t0.pos [] 1 (ls.map (·.1))) tn HKF.out HX3.out.rd HX3.out.kp (by simp [Sy.handleB, Sy.takeB, Sy.lookB, Sy.bnd, hv, H3.out, H4.out, H5.out, H6.out, HCLx.out, HN.out]) (by omega) (by omega) (by omega) _ _ _ _ rfl rfl rfl rfl _ _ _ _ _
   | true =>
    have hmt : tt.length < m := by have h1 := lt_takes (by decide) HT.out; have h2 := HM.out; omega
    obtain ⟨⟨c0, c1, c2, c3, c4⟩, c5, c6, c7, c8, c9⟩ := blk5 HX.out.cells
    go_wp2_with fail
    rcases hx40 : Sy.clauseB z E tt with f40 | ⟨y40, ts40⟩
    ·skip
     refine wp_region_held_drew (S := (fun w' => w'.cell? ⟨w1.heap.size, 4, none⟩ = some vr)) (by kernel_rfl) (by first | trivial | (dsimp only; go_keep)) (fun hHeld => ?_)
     refine wpAnyH_take (i := 0) (v := ?vv0_2) rfl (by kernel_rfl) (by kernel_rfl) (by kernel_rfl) (fun _ _ _ h => h) (Or.inl ⟨by rfl, ?yy0_2⟩) (by assumption) ?rr0_2
     case yy0_2 => (intro w hSw; (try dsimp only at hSw); go_simp; (try with_reducible rfl))
     try simp only [Act.put, List.setIfInBounds_toArray, List.set_cons_zero, List.set_cons_succ]
     refine wpAnyH_take (i := 1) (v := ?vv1_2) rfl (by kernel_rfl) (by kernel_rfl) (by kernel_rfl) (fun _ _ _ h => h) (Or.inl ⟨by rfl, ?yy1_2⟩) (by assumption) ?rr1_2
     case yy1_2 => (intro w hSw; (try dsimp only at hSw); go_simp; (try with_reducible rfl))
     try simp only [Act.put, List.setIfInBounds_toArray, List.set_cons_zero, List.set_cons_succ]
     refine wpAnyH_take (i := 2) (v := ?vv2_2) rfl (by kernel_rfl) (by kernel_rfl) (by kernel_rfl) (fun _ _ _ h => h) (Or.inl ⟨by rfl, ?yy2_2⟩) (by assumption) ?rr2_2
     case yy2_2 => (intro w hSw; (try dsimp only at hSw); go_simp; (try with_reducible rfl))
     try simp only [Act.put, List.setIfInBounds_toArray, List.set_cons_zero, List.set_cons_succ]
     refine wpAnyH_ready (rs := [3]) (by kernel_rfl) (by simp) (AllReadyH.cons rfl (fun K hK => ?_) AllReadyH.nil)
     go_simp
     refine (hCL _ b tt (HX.out.drew).rd hnt).mono ?_
     intro en w40 HD
     obtain ⟨rfl, HK40⟩ := HD.no hx40
     have HKE := hid ((HX.out.drew).kp.trans HK40.out)
     have HCLx : Sy.clausesB z E N [y3, y6] ts6 = .error f40 := by rw [← HE.out]; simp [Sy.clausesB, Sy.iteB_takes, Sy.bnd, HT.out, hx40]
     exact ⟨rfl, DRes.err (by simp [Sy.handleB, Sy.takeB, Sy.lookB, Sy.bnd, hv, H3.out, H4.out, H5.out, H6.out, HCLx]) HKE.out⟩
    have H40 := hid hx40
    clear hx40
    go_region_law (first
     | (refine step_append_lies _ (by rfl) _ _ 22 (by rfl) V.heap.size 24 i0 (.agg #[.int .i64 0, .int .i64 0, .string ⟨#[]⟩, .int .i64 0, .slice none 0 0]) 5 64 Tryz.underlying22 hi hiz0 hiz1 hiz2 rfl (by decide) vr ls.length (rowCells ls) (by rfl) HXA.out.row.own ⟨w40.heap.size, 0, none⟩ 1 1 (nodeCells y40 (.slice a40 l40 c40)) (by rfl) (by rfl) HNW.out (node_one _ _ _ _) (by decide) HLB.out.1 HLB.out.2 HXA.out.size _ rfl ?_; intro ga capa w9 hown hgrow hat hlt9; have HB9 := hid (HXA.out.cells.grown hgrow (fun e0 => by have := (HXA.out.row.own.lt w1.heap.size e0.symm).1; omega)); obtain ⟨⟨t9_0, t9_1, t9_2, t9_3, t9_4⟩, t9_5, t9_6, t9_7, t9_8, t9_9⟩ := blk5 HB9.out)
     | (go_simp; go_at_call 133; refine (hCL _ b tt (HX.out.drew).rd hnt).mono ?_; intro en w40 HD; obtain ⟨a40, l40, c40, rfl, HKd40, HR40, HK40⟩ := HD.yes H40.out; have HXS := hid ((HX.out.drew).step HR40.out HK40.out (by omega) (by omega) (by omega)); obtain ⟨⟨s0, s1, s2, s3, s4⟩, s5, s6, s7, s8, s9⟩ := blk5 HXS.out.cells; have hlA : w1.heap.size < w40.heap.size := Blk.lt HXS.out.cells; have htQ := HK40.out.size; (try simp at htQ); have HXA := hid (HXS.out.alloc (.cells #[.int .i64 y40.kind, .int .i64 y40.pos, .string ⟨y40.name.toArray⟩, .int .i64 y40.num, .slice a40 l40 c40] 24)); have HNW := hid (node_news (w := w40) (T := y40) (a := a40) (l := l40) (c := c40) (ty := 24) (H := w40.heap.size) rfl); dsimp only))
    all_goals
     have HKT : Hid (Kids (w40.alloc (.cells #[.int .i64 y40.kind, .int .i64 y40.pos, .string ⟨y40.name.toArray⟩, .int .i64 y40.num, .slice a40 l40 c40] 24)) (Fo V.heap.size vr) (.slice a40 l40 c40) y40.kids) := by
      refine (HKd40.out.weak (fun q hq hlt => ⟨by (try simp at hq); omega, ?_⟩)).pastF ((Below.refl _ _).alloc (Nat.le_refl _) _)
      intro e0
      have h1 := (HX.out.row.own.lt q e0.symm).2
      (try simp at hq)
      omega
     have HX2 := hid (HXA.out.app (T := y40) (kv := .slice a40 l40 c40) (by omega) (by omega) (by omega) (by omega) (by omega) hown hgrow hat HKT.out)
     have hnQ : ts40.length < N := Nat.lt_of_le_of_lt (le_clause (fun ts h => hE.le _ ts h) _ (Nat.le_refl _) _ _ H40.out) hnt
     have hmQ : ts40.length < m := Nat.lt_of_le_of_lt (le_clause (fun ts h => hE.le _ ts h) _ (Nat.le_refl _) _ _ H40.out) hmt
     have HE2 : Hid (Sy.clausesB z E m ((ls ++ [(y40, (.slice a40 l40 c40 : Value))]).map (·.1)) ts40 = Sy.clausesB z E N [y3, y6] ts6) := by rw [Hid, ← HE.out]; simp [Sy.clausesB, Sy.iteB_takes, Sy.bnd, HT.out, H40.out]
     go_wp2_with fail
     go_roundg m
     case measure => omega
     case rel => exact ⟨_, _, _, HX2, HE2, hmQ, hnQ, by simp; omega, by simp⟩
 | false =>
  have hu : (t0.text == [115, 104, 97, 108, 108, 111, 119]) = false := hv
  go_wp2_with fail
  have hAlo : w1.heap.size < w2.heap.size := Blk.lt HBn_2.out
  refine (hE.calls _ b tl (by repeat (with_reducible (first | exact HR2.out | apply Dr.drew))) hlt0).mono ?_
  intro en w3 HD
  rcases hx3 : E tl with f3 | ⟨y3, ts3⟩
  ·obtain ⟨rfl, HK3⟩ := HD.no hx3
   have HKE := hid ((show Kp b w _ by repeat (with_reducible (first | exact HKA2.out | apply Kp.drew))).trans HK3.out)
   go_wp2_with fail
   exact ⟨rfl, DRes.err (by simp [Sy.handleB, Sy.takeB, Sy.lookB, Sy.iteB_takes, Sy.bnd, hv, hx3]) HKE.out⟩
  have H3 := hid hx3
  have hn3 : ts3.length < N := Nat.lt_of_le_of_lt (hE.le _ _ (Nat.le_refl _) _ _ hx3) hlt0
  obtain ⟨a3, l3, c3, rfl, HKd3, HR3, HK3⟩ := HD.yes hx3
  clear hx3 HD
  obtain ⟨W3, hW3, HV3, HRd3, HKp3, hs3, ht3⟩ := jvar_new HKd3.out HR3.out HK3.out 24
  have HBn_3 := hid ((show Blk _ w1.heap.size [_, _, _, _, _] by repeat (with_reducible (first | exact HBn_2.out | apply Blk.drew))).kp HKp3.out (by omega))
  have HRS3 := hid ((show Blk _ w.heap.size [_, _, _, _, _] by repeat (with_reducible (first | exact HRS2.out | apply Blk.drew))).kp HKp3.out (by omega))
  have HKA3 := hid ((show Kp b w _ by repeat (with_reducible (first | exact HKA2.out | apply Kp.drew))).trans HKp3.out)
  have hne3 : ¬ w3.heap.size = w.heap.size := by omega
  have hno3 : ¬ w.heap.size = w3.heap.size := by omega
  go_wp2_with fail
  try rw [hW3]
  clear hW3
  refine (dneed _ b z ts3 e d Sy.w_with (by decide) (by repeat (with_reducible (first | exact HRd3.out | apply Dr.drew)))).mono ?_
  intro en w4 HD
  rcases hx4 : Sy.needB z Sy.w_with ts3 with f4 | ⟨u4, ts4⟩
  ·obtain ⟨rfl, HK4⟩ := HD.no hx4
   have HKE := hid ((show Kp b w _ by repeat (with_reducible (first | exact HKA3.out | apply Kp.drew))).trans HK4.out)
   go_wp2_with fail
   exact ⟨rfl, DRes.err (by simp [Sy.handleB, Sy.takeB, Sy.lookB, Sy.iteB_takes, Sy.bnd, hv, H3.out, hx4]) HKE.out⟩
  have H4 := hid hx4
  have hn4 : ts4.length < N := Nat.lt_of_le_of_lt (le_need (Nat.le_refl _) _ _ hx4) hn3
  obtain ⟨rfl, HR4, HK4⟩ := HD.yes hx4
  clear hx4 HD
  have ht4 := HK4.out.size
  have HV3_4 := hid ((show Vr _ w3.heap.size w2.heap.size y3 a3 l3 c3 by repeat (with_reducible (first | exact HV3.out | apply Vr.drew))).kp HK4.out (by omega) (by omega))
  have HBn_4 := hid ((show Blk _ w1.heap.size [_, _, _, _, _] by repeat (with_reducible (first | exact HBn_3.out | apply Blk.drew))).kp HK4.out (by omega))
  have HRS4 := hid ((show Blk _ w.heap.size [_, _, _, _, _] by repeat (with_reducible (first | exact HRS3.out | apply Blk.drew))).kp HK4.out (by omega))
  have HKA4 := hid ((show Kp b w _ by repeat (with_reducible (first | exact HKA3.out | apply Kp.drew))).trans HK4.out)
  go_wp2_with fail
  refine (dneed _ b z ts4 e d Sy.s_lb (by decide) (by repeat (with_reducible (first | exact HR4.out | apply Dr.drew)))).mono ?_
  intro en w5 HD
  rcases hx5 : Sy.needB z Sy.s_lb ts4 with f5 | ⟨u5, ts5⟩
  ·obtain ⟨rfl, HK5⟩ := HD.no hx5
   have HKE := hid ((show Kp b w _ by repeat (with_reducible (first | exact HKA4.out | apply Kp.drew))).trans HK5.out)
   go_wp2_with fail
   exact ⟨rfl, DRes.err (by simp [Sy.handleB, Sy.takeB, Sy.lookB, Sy.iteB_takes, Sy.bnd, hv, H3.out, H4.out, hx5]) HKE.out⟩
  have H5 := hid hx5
  have hn5 : ts5.length < N := Nat.lt_of_le_of_lt (le_need (Nat.le_refl _) _ _ hx5) hn4
  obtain ⟨rfl, HR5, HK5⟩ := HD.yes hx5
  clear hx5 HD
  have ht5 := HK5.out.size
  have HV3_5 := hid ((show Vr _ w3.heap.size w2.heap.size y3 a3 l3 c3 by repeat (with_reducible (first | exact HV3_4.out | apply Vr.drew))).kp HK5.out (by omega) (by omega))
  have HBn_5 := hid ((show Blk _ w1.heap.size [_, _, _, _, _] by repeat (with_reducible (first | exact HBn_4.out | apply Blk.drew))).kp HK5.out (by omega))
  have HRS5 := hid ((show Blk _ w.heap.size [_, _, _, _, _] by repeat (with_reducible (first | exact HRS4.out | apply Blk.drew))).kp HK5.out (by omega))
  have HKA5 := hid ((show Kp b w _ by repeat (with_reducible (first | exact HKA4.out | apply Kp.drew))).trans HK5.out)
  obtain ⟨⟨q1_0, q1_1, q1_2, q1_3, q1_4⟩, q1_5, q1_6, q1_7, q1_8, q1_9⟩ := blk5 HV3_5.out.cells
  obtain ⟨⟨b2_0, b2_1, b2_2, b2_3, b2_4⟩, b2_5, b2_6, b2_7, b2_8, b2_9⟩ := blk5 HBn_5.out
  go_wp2_with fail
  rcases hx6 : Sy.retB z E ts5 with f6 | ⟨y6, ts6⟩
  ·skip
   refine wp_region_held_drew (S := (fun w' => w'.cell? ⟨w3.heap.size, 0, none⟩ = some (.int .i64 y3.kind) ∧ w'.cell? ⟨w3.heap.size, 1, none⟩ = some (.int .i64 y3.pos) ∧ w'.cell? ⟨w3.heap.size, 2, none⟩ = some (.string ⟨y3.name.toArray⟩) ∧ w'.cell? ⟨w3.heap.size, 3, none⟩ = some (.int .i64 y3.num) ∧ w'.cell? ⟨w3.heap.size, 4, none⟩ = some (.slice a3 l3 c3))) (by kernel_rfl) (by first | trivial | (dsimp only; go_keep)) (fun hHeld => ?_)
   refine wpAnyH_take (i := 0) (v := ?vv0_3) rfl (by kernel_rfl) (by kernel_rfl) (by kernel_rfl) (fun _ _ _ h => h) (Or.inl ⟨by rfl, ?yy0_3⟩) (by assumption) ?rr0_3
   case yy0_3 => (intro w hSw; (try dsimp only at hSw); go_simp; (try with_reducible rfl))
   try simp only [Act.put, List.setIfInBounds_toArray, List.set_cons_zero, List.set_cons_succ]
   refine wpAnyH_take (i := 1) (v := ?vv1_3) rfl (by kernel_rfl) (by kernel_rfl) (by kernel_rfl) (fun _ _ _ h => h) (Or.inl ⟨by rfl, ?yy1_3⟩) (by assumption) ?rr1_3
   case yy1_3 => (intro w hSw; (try dsimp only at hSw); go_simp; (try with_reducible rfl))
   try simp only [Act.put, List.setIfInBounds_toArray, List.set_cons_zero, List.set_cons_succ]
   refine wpAnyH_ready (rs := [2]) (by kernel_rfl) (by simp) (AllReadyH.cons rfl (fun K hK => ?_) AllReadyH.nil)
   go_simp
   refine (hRC _ b ts5 (by repeat (with_reducible (first | exact HR5.out | apply Dr.drew))) hn5).mono ?_
   intro en w6 HD
   obtain ⟨rfl, HK6⟩ := HD.no hx6
   have HKE := hid ((show Kp b w _ by repeat (with_reducible (first | exact HKA5.out | apply Kp.drew))).trans HK6.out)
   exact ⟨rfl, DRes.err (by simp [Sy.handleB, Sy.takeB, Sy.lookB, Sy.iteB_takes, Sy.bnd, hv, H3.out, H4.out, H5.out, hx6]) HKE.out⟩
  have H6 := hid hx6
  have hn6 : ts6.length < N := Nat.lt_of_le_of_lt (le_ret (fun ts h => hE.le _ ts h) _ (Nat.le_refl _) _ _ hx6) hn5
  clear hx6
  have hnv : ¬ w3.heap.size = w1.heap.size := by omega
  have hnv2 : ¬ w1.heap.size = w3.heap.size := by omega
  go_region_held3 (fun w' => w'.cell? ⟨w3.heap.size, 0, none⟩ = some (.int .i64 y3.kind) ∧ w'.cell? ⟨w3.heap.size, 1, none⟩ = some (.int .i64 y3.pos) ∧ w'.cell? ⟨w3.heap.size, 2, none⟩ = some (.string ⟨y3.name.toArray⟩) ∧ w'.cell? ⟨w3.heap.size, 3, none⟩ = some (.int .i64 y3.num) ∧ w'.cell? ⟨w3.heap.size, 4, none⟩ = some (.slice a3 l3 c3)) (go_keep) (first
   | (go_at_call 132; refine (hRC _ b ts5 (by repeat (with_reducible (first | exact HR5.out | apply Dr.drew))) hn5).mono ?_; intro en w6 HD; obtain ⟨a6, l6, c6, rfl, HKd6, HR6, HK6⟩ := HD.yes H6.out; have ht6 := HK6.out.size; (try simp at ht6); have HV3_6 := hid ((show Vr _ w3.heap.size w2.heap.size y3 a3 l3 c3 by repeat (with_reducible (first | exact HV3_5.out | apply Vr.drew))).kp HK6.out (by omega) (by omega)); obtain ⟨⟨q3_0, q3_1, q3_2, q3_3, q3_4⟩, q3_5, q3_6, q3_7, q3_8, q3_9⟩ := blk5 HV3_6.out.cells; have HBn_6 := hid ((show Blk _ w1.heap.size [_, _, _, _, _] by repeat (with_reducible (first | exact HBn_5.out | apply Blk.drew))).kp HK6.out (by omega)); have HRS6 := hid ((show Blk _ w.heap.size [_, _, _, _, _] by repeat (with_reducible (first | exact HRS5.out | apply Blk.drew))).kp HK6.out (by omega)); have HKA6 := hid ((show Kp b w _ by repeat (with_reducible (first | exact HKA5.out | apply Kp.drew))).trans HK6.out); obtain ⟨⟨u4_0, u4_1, u4_2, u4_3, u4_4⟩, u4_5, u4_6, u4_7, u4_8, u4_9⟩ := blk5 HRS6.out; have hlw6 : w.heap.size < w6.heap.size := Blk.lt HRS6.out; have hlv3_6 : w3.heap.size < w6.heap.size := Blk.lt HV3_6.out.cells; have HY6 : Hid (Kids w6 (fun g => w5.heap.size ≤ g) (.slice a6 l6 c6) y6.kids) := HKd6.out.weak (fun g hg _ => by (try simp at hg); omega); obtain ⟨⟨s0, s1, s2, s3, s4⟩, s5, s6, s7, s8, s9⟩ := blk5 HBn_6.out; have hlA : w1.heap.size < w6.heap.size := Blk.lt HBn_6.out))
  have HX0 : Hid (Hw w b w1.heap.size w.heap.size (w2.heap.size) z ts6 e d 20 t0.pos 0 ⟨#[]⟩ (.slice (some ⟨w6.heap.size, 0, none⟩) 2 2) [(y3, .slice a3 l3 c3), (y6, .slice a6 l6 c6)] ((w6.setCell ⟨w1.heap.size, 4, none⟩ (.slice (some ⟨w6.heap.size, 0, none⟩) 2 2)).alloc (.cells #[.int .i64 y3.kind, .int .i64 y3.pos, .string ⟨y3.name.toArray⟩, .int .i64 y3.num, .slice a3 l3 c3, .int .i64 y6.kind, .int .i64 y6.pos, .string ⟨y6.name.toArray⟩, .int .i64 y6.num, .slice a6 l6 c6] 24))) := by
   refine ⟨(HBn_6.out.set 4 (by simp) _).alloc _, rowS_lit [(y3, .slice a3 l3 c3), (y6, .slice a6 l6 c6)] (by simp) w6.heap.size (by simp) #[.int .i64 y3.kind, .int .i64 y3.pos, .string ⟨y3.name.toArray⟩, .int .i64 y3.num, .slice a3 l3 c3, .int .i64 y6.kind, .int .i64 y6.pos, .string ⟨y6.name.toArray⟩, .int .i64 y6.num, .slice a6 l6 c6] rfl 2 rfl (by decide) (by omega) ?_, ⟨_, _, _, _, _, (HRS6.out.other (by omega) _ _).alloc _⟩, (HR6.out.other (by omega) _ _).alloc _, (HKA6.out.other (by omega) _ _).alloc _, by simp; omega⟩
   intro p hp
   simp only [List.mem_cons, List.not_mem_nil, or_false] at hp
   rcases hp with rfl | rfl
   ·exact (HV3_6.out.kids.free (hi := w2.heap.size) (by omega)).carry (fun g hg _ => Below.heap_setCell _ _ _ _ (show g ≠ w1.heap.size by omega)) (fun g hg _ => hg)
   ·exact (HY6.out.weak (F' := fun g => w2.heap.size ≤ g) (fun g hg _ => Nat.le_trans (by omega) hg)).carry (fun g hg _ => Below.heap_setCell _ _ _ _ (show g ≠ w1.heap.size by omega)) (fun g hg _ => hg)
  go_wp2_with fail
  go_loopg [] N (fun n wr => ∃ (vr : Value) (ls : List (Sy.Tr × Value)) (tr : List Lx.Tk), Hid (Hw w b w1.heap.size w.heap.size (w2.heap.size) z tr e d 20 t0.pos 0 ⟨#[]⟩ vr ls wr) ∧ Hid (Sy.clausesB z E n (ls.map (·.1)) tr = Sy.clausesB z E N [y3, y6] ts6) ∧ Hid (tr.length < n) ∧ tr.length < N ∧ ls.length + n = N + 2 ∧ ls ≠ [])
  case atStart => exact ⟨_, [(y3, .slice a3 l3 c3), (y6, .slice a6 l6 c6)], ts6, HX0, hid rfl, hn6, hn6, by simp; omega, by simp⟩
  case round =>
   obtain ⟨vr, ls, tr, HXr, HE, HM, hnr, hlen, hls0⟩ := hrel
   obtain ⟨m, hm⟩ : ∃ m, gk = m + 1 := ⟨gk - 1, by have := HM.out; omega⟩
   subst hm
   have hAr : w1.heap.size < wr.heap.size := Blk.lt HXr.out.cells
   have hzr := HXr.out.size
   have HLB := hid (len_bytes (n := ls.length) (N := N + 3) (by omega) (by omega))
   go_wp2_with fail
   refine (dtakes _ b z tr e d Sy.s_bar (by decide) HXr.out.rd).mono ?_
   intro en wt HD
   rcases hxt : Sy.takesB z Sy.s_bar tr with ft | ⟨vt, tt⟩
   ·obtain ⟨rfl, HKt⟩ := HD.no hxt
    have HKE := hid (HXr.out.kp.trans HKt.out)
    have HCLx : Hid (Sy.clausesB z E N [y3, y6] ts6 = .error ft) := by rw [Hid, ← HE.out]; simp [Sy.clausesB, Sy.iteB_takes, Sy.bnd, hxt]
    go_wp2_with fail
    exact ⟨rfl, DRes.err (by simp [Sy.handleB, Sy.takeB, Sy.lookB, Sy.bnd, hv, H3.out, H4.out, H5.out, H6.out, HCLx.out]) HKE.out⟩
   have HT := hid hxt
   obtain ⟨rfl, HRt, HKt⟩ := HD.yes hxt
   clear hxt HD
   have htt := HKt.out.size
   have hnt : tt.length < N := Nat.lt_of_le_of_lt (le_takes (Nat.le_refl _) _ _ HT.out) hnr
   have HX := hid (HXr.out.step HRt.out HKt.out (by omega) (by omega) (by omega))
   cases vt with
   | false =>
    have HCLx : Hid (Sy.clausesB z E N [y3, y6] ts6 = .ok (ls.map (·.1), tt)) := by rw [Hid, ← HE.out]; simp [Sy.clausesB, Sy.iteB_takes, Sy.bnd, HT.out]
    go_wp2_with fail
    refine (dneed _ b z tt e d Sy.s_rb (by decide) HX.out.rd).mono ?_
    intro en wn HD
    rcases hxn : Sy.needB z Sy.s_rb tt with fn | ⟨un, tn⟩
    ·obtain ⟨rfl, HKn⟩ := HD.no hxn
     have HKE := hid (HX.out.kp.trans HKn.out)
     go_wp2_with fail
     exact ⟨rfl, DRes.err (by simp [Sy.handleB, Sy.takeB, Sy.lookB, Sy.bnd, hv, H3.out, H4.out, H5.out, H6.out, HCLx.out, hxn]) HKE.out⟩
    have HN := hid hxn
    obtain ⟨rfl, HRn, HKn⟩ := HD.yes hxn
    clear hxn HD
    have HX3 := hid (HX.out.step HRn.out HKn.out (by omega) (by omega) (by omega))
    obtain ⟨gf, cf, hvf⟩ := HX3.out.row.form hls0
    subst hvf
    have HKF := hid (HX3.out.row.kidsOf hls0 rfl)
    obtain ⟨r0, r1, r2, r3, r4, hRf⟩ := HX3.out.res
    obtain ⟨⟨z0, z1, z2, z3, z4⟩, z5, z6, z7, z8, z9⟩ := blk5 hRf
    obtain ⟨⟨c0, c1, c2, c3, c4⟩, c5, c6, c7, c8, c9⟩ := blk5 HX3.out.cells
    go_wp2_with fail
    refine bodyPost_ret (v := .agg #[.int .i64 20, .int .i64 t0.pos, .string ⟨#[]⟩, .int .i64 0, .slice (some ⟨gf, 0, none⟩) ls.length cf]) (by simp [results, Tryz.results106, go_sem, z0, z1, z2, z3, z4]) rfl ?_
    exact dres_fin (lo := w2.heap.size) (.mk 20 t0.pos [] 0 (ls.map (·.1))) tn HKF.out HX3.out.rd HX3.out.kp (by simp [Sy.handleB, Sy.takeB, Sy.lookB, Sy.bnd, hv, H3.out, H4.out, H5.out, H6.out, HCLx.out, HN.out]) (by omega) (by omega) (by omega) _ _ _ _ rfl rfl rfl rfl _ _ _ _ _
   | true =>
    have hmt : tt.length < m := by have h1 := lt_takes (by decide) HT.out; have h2 := HM.out; omega
    obtain ⟨⟨c0, c1, c2, c3, c4⟩, c5, c6, c7, c8, c9⟩ := blk5 HX.out.cells
    go_wp2_with fail
    rcases hx40 : Sy.clauseB z E tt with f40 | ⟨y40, ts40⟩
    ·skip
     refine wp_region_held_drew (S := (fun w' => w'.cell? ⟨w1.heap.size, 4, none⟩ = some vr)) (by kernel_rfl) (by first | trivial | (dsimp only; go_keep)) (fun hHeld => ?_)
     refine wpAnyH_take (i := 0) (v := ?vv0_4) rfl (by kernel_rfl) (by kernel_rfl) (by kernel_rfl) (fun _ _ _ h => h) (Or.inl ⟨by rfl, ?yy0_4⟩) (by assumption) ?rr0_4
     case yy0_4 => (intro w hSw; (try dsimp only at hSw); go_simp; (try with_reducible rfl))
     try simp only [Act.put, List.setIfInBounds_toArray, List.set_cons_zero, List.set_cons_succ]
     refine wpAnyH_take (i := 1) (v := ?vv1_4) rfl (by kernel_rfl) (by kernel_rfl) (by kernel_rfl) (fun _ _ _ h => h) (Or.inl ⟨by rfl, ?yy1_4⟩) (by assumption) ?rr1_4
     case yy1_4 => (intro w hSw; (try dsimp only at hSw); go_simp; (try with_reducible rfl))
     try simp only [Act.put, List.setIfInBounds_toArray, List.set_cons_zero, List.set_cons_succ]
     refine wpAnyH_take (i := 2) (v := ?vv2_4) rfl (by kernel_rfl) (by kernel_rfl) (by kernel_rfl) (fun _ _ _ h => h) (Or.inl ⟨by rfl, ?yy2_4⟩) (by assumption) ?rr2_4
     case yy2_4 => (intro w hSw; (try dsimp only at hSw); go_simp; (try with_reducible rfl))
     try simp only [Act.put, List.setIfInBounds_toArray, List.set_cons_zero, List.set_cons_succ]
     refine wpAnyH_ready (rs := [3]) (by kernel_rfl) (by simp) (AllReadyH.cons rfl (fun K hK => ?_) AllReadyH.nil)
     go_simp
     refine (hCL _ b tt (HX.out.drew).rd hnt).mono ?_
     intro en w40 HD
     obtain ⟨rfl, HK40⟩ := HD.no hx40
     have HKE := hid ((HX.out.drew).kp.trans HK40.out)
     have HCLx : Sy.clausesB z E N [y3, y6] ts6 = .error f40 := by rw [← HE.out]; simp [Sy.clausesB, Sy.iteB_takes, Sy.bnd, HT.out, hx40]
     exact ⟨rfl, DRes.err (by simp [Sy.handleB, Sy.takeB, Sy.lookB, Sy.bnd, hv, H3.out, H4.out, H5.out, H6.out, HCLx]) HKE.out⟩
    have H40 := hid hx40
    clear hx40
    go_region_law (first
     | (refine step_append_lies _ (by rfl) _ _ 22 (by rfl) w2.heap.size 24 i0 (.agg #[.int .i64 0, .int .i64 0, .string ⟨#[]⟩, .int .i64 0, .slice none 0 0]) 5 64 Tryz.underlying22 hi hiz0 hiz1 hiz2 rfl (by decide) vr ls.length (rowCells ls) (by rfl) HXA.out.row.own ⟨w40.heap.size, 0, none⟩ 1 1 (nodeCells y40 (.slice a40 l40 c40)) (by rfl) (by rfl) HNW.out (node_one _ _ _ _) (by decide) HLB.out.1 HLB.out.2 HXA.out.size _ rfl ?_; intro ga capa w9 hown hgrow hat hlt9; have HB9 := hid (HXA.out.cells.grown hgrow (fun e0 => by have := (HXA.out.row.own.lt w1.heap.size e0.symm).1; omega)); obtain ⟨⟨t9_0, t9_1, t9_2, t9_3, t9_4⟩, t9_5, t9_6, t9_7, t9_8, t9_9⟩ := blk5 HB9.out)
     | (go_simp; go_at_call 133; refine (hCL _ b tt (HX.out.drew).rd hnt).mono ?_; intro en w40 HD; obtain ⟨a40, l40, c40, rfl, HKd40, HR40, HK40⟩ := HD.yes H40.out; have HXS := hid ((HX.out.drew).step HR40.out HK40.out (by omega) (by omega) (by omega)); obtain ⟨⟨s0, s1, s2, s3, s4⟩, s5, s6, s7, s8, s9⟩ := blk5 HXS.out.cells; have hlA : w1.heap.size < w40.heap.size := Blk.lt HXS.out.cells; have htQ := HK40.out.size; (try simp at htQ); have HXA := hid (HXS.out.alloc (.cells #[.int .i64 y40.kind, .int .i64 y40.pos, .string ⟨y40.name.toArray⟩, .int .i64 y40.num, .slice a40 l40 c40] 24)); have HNW := hid (node_news (w := w40) (T := y40) (a := a40) (l := l40) (c := c40) (ty := 24) (H := w40.heap.size) rfl); dsimp only))
    all_goals
     have HKT : Hid (Kids (w40.alloc (.cells #[.int .i64 y40.kind, .int .i64 y40.pos, .string ⟨y40.name.toArray⟩, .int .i64 y40.num, .slice a40 l40 c40] 24)) (Fo w2.heap.size vr) (.slice a40 l40 c40) y40.kids) := by
      refine (HKd40.out.weak (fun q hq hlt => ⟨by (try simp at hq); omega, ?_⟩)).pastF ((Below.refl _ _).alloc (Nat.le_refl _) _)
      intro e0
      have h1 := (HX.out.row.own.lt q e0.symm).2
      (try simp at hq)
      omega
     have HX2 := hid (HXA.out.app (T := y40) (kv := .slice a40 l40 c40) (by omega) (by omega) (by omega) (by omega) (by omega) hown hgrow hat HKT.out)
     have hnQ : ts40.length < N := Nat.lt_of_le_of_lt (le_clause (fun ts h => hE.le _ ts h) _ (Nat.le_refl _) _ _ H40.out) hnt
     have hmQ : ts40.length < m := Nat.lt_of_le_of_lt (le_clause (fun ts h => hE.le _ ts h) _ (Nat.le_refl _) _ _ H40.out) hmt
     have HE2 : Hid (Sy.clausesB z E m ((ls ++ [(y40, (.slice a40 l40 c40 : Value))]).map (·.1)) ts40 = Sy.clausesB z E N [y3, y6] ts6) := by rw [Hid, ← HE.out]; simp [Sy.clausesB, Sy.iteB_takes, Sy.bnd, HT.out, H40.out]
     go_wp2_with fail
     go_roundg m
     case measure => omega
     case rel => exact ⟨_, _, _, HX2, HE2, hmQ, hnQ, by simp; omega, by simp⟩
end Go.Proofs.YtoajnlhegallpaaGreatDoor
