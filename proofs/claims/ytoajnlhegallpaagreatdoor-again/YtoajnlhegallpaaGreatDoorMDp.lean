/-
  What the program's rules do: binding.
-/
import Derived.Test.YtoajnlhegallpaaGreatDoorMDk
import Derived.Test.YtoajnlhegallpaaGreatDoorMRx
set_option linter.unusedVariables false
set_option linter.unusedSimpArgs false
set_option maxRecDepth 100000
set_option maxHeartbeats 4000000
namespace Go.Proofs.YtoajnlhegallpaaGreatDoor
open Go.RowKit

def BdRes (w : World) (b : Nat) (z : Sy.Env) (x : Sy.R (Int × List UInt8 × Sy.Tr)) (k p : Nat) (e d : Nat) (en : Ending) (w' : World) : Prop :=
 match x with
 | .ok (q, ts) => ∃ g lo kv, en = .returned (.agg #[.int .i64 k, .int .i64 p, .string ⟨q.2.1.toArray⟩, .int .i64 q.1, .slice (some ⟨g, 0, none⟩) 1 1]) ∧ w.heap.size ≤ lo ∧ Hid (RowS w' lo (.slice (some ⟨g, 0, none⟩) 1 1) [(q.2.2, kv)]) ∧ Hid (Dr w' b z ts e d) ∧ Hid (Kp b w w')
 | .error f => Refuses f en ∧ Hid (Kp b w w')
section
variable {w : World} {b : Nat} {z : Sy.Env} {x : Sy.R (Int × List UInt8 × Sy.Tr)} {k p e d : Nat} {en : Ending} {w' : World}
theorem BdRes.yes (h : BdRes w b z x k p e d en w') {q : Int × List UInt8 × Sy.Tr} {ts : List Lx.Tk} (hx : x = .ok (q, ts)) :
  ∃ g lo kv, en = .returned (.agg #[.int .i64 k, .int .i64 p, .string ⟨q.2.1.toArray⟩, .int .i64 q.1, .slice (some ⟨g, 0, none⟩) 1 1]) ∧ w.heap.size ≤ lo ∧ Hid (RowS w' lo (.slice (some ⟨g, 0, none⟩) 1 1) [(q.2.2, kv)]) ∧ Hid (Dr w' b z ts e d) ∧ Hid (Kp b w w') := by subst hx; exact h
theorem BdRes.no (h : BdRes w b z x k p e d en w') {f : Nat × Nat} (hx : x = .error f) : en = .panicked [{ v := refV f, recovered := false }] ∧ Hid (Kp b w w') := by subst hx; exact h
theorem BdRes.err {f : Nat × Nat} (hx : x = .error f) (h2 : Kp b w w') : BdRes w b z x k p e d (.panicked [{ v := refV f, recovered := false }]) w' := by subst hx; exact ⟨rfl, h2⟩
end
theorem jblk_new {w0 w1 : World} {b e d : Nat} {z : Sy.Env} {ts : List Lx.Tk} (v0 v1 v2 v3 v4 : Value) (hr : Dr w1 b z ts e d) (hk : Kp b w0 w1) (ty : TypeId) :
  ∃ W, w1.alloc (.cells #[v0, v1, v2, v3, v4] ty) = W ∧ Hid (Blk W w1.heap.size [v0, v1, v2, v3, v4]) ∧ Hid (Dr W b z ts e d) ∧ Hid (Kp b w0 W) ∧ W.heap.size = w1.heap.size + 1 ∧ w0.heap.size ≤ w1.heap.size :=
 ⟨_, rfl, Blk.new w1 [_, _, _, _, _] _, hr.alloc _, hk.alloc _, by simp, hk.size⟩
theorem jset {w W : World} {b e d A R : Nat} {z : Sy.Env} {ts : List Lx.Tk} {v0 v1 v2 v3 v4 r0 r1 r2 r3 r4 : Value} (hA : Blk W A [v0, v1, v2, v3, v4]) (hr : Dr W b z ts e d) (hk : Kp b w W) (hR : Blk W R [r0, r1, r2, r3, r4]) (hb : b < A) (hw : w.heap.size ≤ A) (hRA : R ≠ A) (i : Nat) (hi : i < 5) (v : Value) :
  ∃ V, W.setCell ⟨A, i, none⟩ v = V ∧ Hid (Blk V A ([v0, v1, v2, v3, v4].set i v)) ∧ Hid (Dr V b z ts e d) ∧ Hid (Kp b w V) ∧ Hid (Blk V R [r0, r1, r2, r3, r4]) ∧ V.heap.size = W.heap.size :=
 ⟨_, rfl, hA.set i (by simpa using hi) v, hr.other hb _ _, hk.other hw _ _, hR.other hRA _ _, by simp⟩

theorem dbindLet (N e d : Nat) (hN : N ≤ 90000) (z : Sy.Env) (E : List Lx.Tk → Sy.R Sy.Tr) (hE : EOK N e d z E) (w : World) (b : Nat) (t0 : Lx.Tk) (tl : List Lx.Tk) (h : Dr w b z (t0 :: tl) e d) (hn : (t0 :: tl).length < N) :
  Calls Tryz.prog 32 #[.pointer (some ⟨b, 0, none⟩), .int .i64 9] w fun en w' => BdRes w b z (Sy.bindB z N E 0 tl) 9 t0.pos e d en w' := by
 have H := hid h
 have hbR : b < w.heap.size := h.lt
 clear h
 go_enter Tryz.func32, Tryz.ntmps32
 go_wp2_with fail
 obtain ⟨W0, hW0, HI⟩ := jn1 H.out 24
 rw [hW0]
 clear hW0
 have hz0 := HI.out.size
 have hlt0 : tl.length < N := by simp only [List.length_cons] at hn; omega
 obtain ⟨hf0, hf1, hf2, hf3⟩ := fld_tk (.int .i64 t0.kind) (.int .i64 t0.pos) (.string ⟨t0.text.toArray⟩) (.int .i64 t0.num)
 refine (dtake _ b z t0 tl e d (by repeat (with_reducible (first | exact HI.out.rd | apply Dr.drew)))).mono ?_
 intro en w1 HD
 obtain ⟨rfl, HR1, HK1⟩ := HD.yes rfl
 dsimp only [tkV]
 clear HD
 have ht1 := HK1.out.size
 have HRS1 := hid ((show Blk _ w.heap.size [_, _, _, _, _] by repeat (with_reducible (first | exact HI.out.one | apply Blk.drew))).kp HK1.out (by omega))
 have HKA1 := hid ((show Kp b w _ by repeat (with_reducible (first | exact HI.out.kp | apply Kp.drew))).trans HK1.out)
 obtain ⟨W1, hW1, HB1, HRd1, HKp1, hs1, hu1⟩ := jblk_new (.int .i64 9) (.int .i64 t0.pos) (.string ⟨#[]⟩) (.int .i64 0) (.slice none 0 0) HR1.out HK1.out 24
 have HRSx := hid (HI.out.one.kp HKp1.out (by omega))
 have HKAx := hid (HI.out.kp.trans HKp1.out)
 have HWW := hid hW1
 clear hW1
 go_wp2_with fail
 rw [HWW.out]
 have hneA : ¬ w1.heap.size = w.heap.size := by omega
 have hneB : ¬ w.heap.size = w1.heap.size := by omega
 refine (dtakes _ b z tl e d Sy.w_rec (by decide) (by repeat (with_reducible (first | exact HRd1.out | apply Dr.drew)))).mono ?_
 intro en w2 HD
 rcases hx2 : Sy.takesB z Sy.w_rec tl with f2 | ⟨v2, ts2⟩
 ·obtain ⟨rfl, HK2⟩ := HD.no hx2
  have HKE := hid ((show Kp b w _ by repeat (with_reducible (first | exact HKAx.out | apply Kp.drew))).trans HK2.out)
  go_wp2_with fail
  exact ⟨rfl, BdRes.err (by simp [Sy.bindB, Sy.iteB_takes, Sy.bnd, hx2]) HKE.out⟩
 have H2 := hid hx2
 have hn2 : ts2.length < N := Nat.lt_of_le_of_lt (le_takes (Nat.le_refl _) _ _ hx2) hlt0
 obtain ⟨rfl, HR2, HK2⟩ := HD.yes hx2
 clear hx2 HD
 have ht2 := HK2.out.size
 have HBn_2 := hid ((show Blk _ w1.heap.size [_, _, _, _, _] by repeat (with_reducible (first | exact HB1.out | apply Blk.drew))).kp HK2.out (by omega))
 have HRS2 := hid ((show Blk _ w.heap.size [_, _, _, _, _] by repeat (with_reducible (first | exact HRSx.out | apply Blk.drew))).kp HK2.out (by omega))
 have HKA2 := hid ((show Kp b w _ by repeat (with_reducible (first | exact HKAx.out | apply Kp.drew))).trans HK2.out)
 cases v2 with
 | true =>
  obtain ⟨⟨b1_0, b1_1, b1_2, b1_3, b1_4⟩, b1_5, b1_6, b1_7, b1_8, b1_9⟩ := blk5 HBn_2.out
  obtain ⟨j2, hj2, HBj2, HRj2, HKj2, HSj2, hzj2⟩ := jset HBn_2.out HR2.out HKA2.out HRS2.out (by omega) (by omega) (by omega) 3 (by decide) (.int .i64 1)
  have Hj2 := hid hj2
  clear hj2
  have HBsj2 : Hid (Blk j2 w1.heap.size [.int .i64 9, .int .i64 t0.pos, .string ⟨#[]⟩, .int .i64 1, .slice none 0 0]) := HBj2
  go_wp2_with fail
  rw [Hj2.out]
  refine (dname _ b z ts2 e d (by repeat (with_reducible (first | exact HRj2.out | apply Dr.drew)))).mono ?_
  intro en w3 HD
  rcases hx3 : Sy.kindB z 2 ts2 with f3 | ⟨t3, ts3⟩
  ·obtain ⟨rfl, HK3⟩ := HD.no hx3
   have HKE := hid ((show Kp b w _ by repeat (with_reducible (first | exact HKj2.out | apply Kp.drew))).trans HK3.out)
   go_wp2_with fail
   exact ⟨rfl, BdRes.err (by simp [Sy.bindB, Sy.iteB_takes, Sy.bnd, H2.out, hx3]) HKE.out⟩
  have H3 := hid hx3
  have hn3 : ts3.length < N := Nat.lt_of_le_of_lt (le_kind (Nat.le_refl _) _ _ hx3) hn2
  obtain ⟨rfl, HR3, HK3⟩ := HD.yes hx3
  dsimp only [tkV]
  clear hx3 HD
  have ht3 := HK3.out.size
  have HBn_3 := hid ((show Blk _ w1.heap.size [_, _, _, _, _] by repeat (with_reducible (first | exact HBsj2.out | apply Blk.drew))).kp HK3.out (by omega))
  have HRS3 := hid ((show Blk _ w.heap.size [_, _, _, _, _] by repeat (with_reducible (first | exact HSj2.out | apply Blk.drew))).kp HK3.out (by omega))
  have HKA3 := hid ((show Kp b w _ by repeat (with_reducible (first | exact HKj2.out | apply Kp.drew))).trans HK3.out)
  obtain ⟨hf3_0, hf3_1, hf3_2, hf3_3⟩ := fld_tk (.int .i64 t3.kind) (.int .i64 t3.pos) (.string ⟨t3.text.toArray⟩) (.int .i64 t3.num)
  obtain ⟨⟨b3_0, b3_1, b3_2, b3_3, b3_4⟩, b3_5, b3_6, b3_7, b3_8, b3_9⟩ := blk5 HBn_3.out
  obtain ⟨j4, hj4, HBj4, HRj4, HKj4, HSj4, hzj4⟩ := jset HBn_3.out HR3.out HKA3.out HRS3.out (by omega) (by omega) (by omega) 2 (by decide) (.string ⟨t3.text.toArray⟩)
  have Hj4 := hid hj4
  clear hj4
  have HBsj4 : Hid (Blk j4 w1.heap.size [.int .i64 9, .int .i64 t0.pos, .string ⟨t3.text.toArray⟩, .int .i64 1, .slice none 0 0]) := HBj4
  go_wp2_with fail
  rw [Hj4.out]
  refine (dnames N e d hN z _ b 1 (by decide) ts3 (by repeat (with_reducible (first | exact HRj4.out | apply Dr.drew))) hn3).mono ?_
  intro en w4 HD
  rcases hx4 : Sy.namesB z 1 N [] ts3 with f4 | ⟨pl4, ts4⟩
  ·obtain ⟨rfl, HK4⟩ := HD.no hx4
   have HKE := hid ((show Kp b w _ by repeat (with_reducible (first | exact HKj4.out | apply Kp.drew))).trans HK4.out)
   go_wp2_with fail
   exact ⟨rfl, BdRes.err (by simp [Sy.bindB, Sy.iteB_takes, Sy.bnd, H2.out, H3.out, hx4]) HKE.out⟩
  have H4 := hid hx4
  have hn4 : ts4.length < N := Nat.lt_of_le_of_lt (le_names _ _ _ (Nat.le_refl _) _ _ hx4) hn3
  have hpl4 : pl4.length ≤ 90000 := by have h1 := names_len _ _ _ _ _ hx4; simp only [List.length_nil] at h1; omega
  obtain ⟨vn4, rfl, HOW4, HR4, HK4⟩ := HD.yes hx4
  clear hx4 HD
  have ht4 := HK4.out.size
  have HBn_4 := hid ((show Blk _ w1.heap.size [_, _, _, _, _] by repeat (with_reducible (first | exact HBsj4.out | apply Blk.drew))).kp HK4.out (by omega))
  have HRS4 := hid ((show Blk _ w.heap.size [_, _, _, _, _] by repeat (with_reducible (first | exact HSj4.out | apply Blk.drew))).kp HK4.out (by omega))
  have HKA4 := hid ((show Kp b w _ by repeat (with_reducible (first | exact HKj4.out | apply Kp.drew))).trans HK4.out)
  go_wp2_with fail
  refine (dneed _ b z ts4 e d Sy.s_eq (by decide) (by repeat (with_reducible (first | exact HR4.out | apply Dr.drew)))).mono ?_
  intro en w5 HD
  rcases hx5 : Sy.needB z Sy.s_eq ts4 with f5 | ⟨u5, ts5⟩
  ·obtain ⟨rfl, HK5⟩ := HD.no hx5
   have HKE := hid ((show Kp b w _ by repeat (with_reducible (first | exact HKA4.out | apply Kp.drew))).trans HK5.out)
   go_wp2_with fail
   exact ⟨rfl, BdRes.err (by simp [Sy.bindB, Sy.iteB_takes, Sy.bnd, H2.out, H3.out, H4.out, hx5]) HKE.out⟩
  have H5 := hid hx5
  have hn5 : ts5.length < N := Nat.lt_of_le_of_lt (le_need (Nat.le_refl _) _ _ hx5) hn4
  obtain ⟨rfl, HR5, HK5⟩ := HD.yes hx5
  clear hx5 HD
  have ht5 := HK5.out.size
  have HBn_5 := hid ((show Blk _ w1.heap.size [_, _, _, _, _] by repeat (with_reducible (first | exact HBn_4.out | apply Blk.drew))).kp HK5.out (by omega))
  have HO4_5 := hid (own_kp (show World.ownsRow _ j4.heap.size 41 4 vn4 pl4.length (Lr.cellsOf pl4) by repeat (with_reducible (first | exact HOW4.out | apply own_drew))) HK5.out (by omega))
  have HRS5 := hid ((show Blk _ w.heap.size [_, _, _, _, _] by repeat (with_reducible (first | exact HRS4.out | apply Blk.drew))).kp HK5.out (by omega))
  have HKA5 := hid ((show Kp b w _ by repeat (with_reducible (first | exact HKA4.out | apply Kp.drew))).trans HK5.out)
  go_wp2_with fail
  refine (hE.calls _ b ts5 (by repeat (with_reducible (first | exact HR5.out | apply Dr.drew))) hn5).mono ?_
  intro en w6 HD
  rcases hx6 : E ts5 with f6 | ⟨y6, ts6⟩
  ·obtain ⟨rfl, HK6⟩ := HD.no hx6
   have HKE := hid ((show Kp b w _ by repeat (with_reducible (first | exact HKA5.out | apply Kp.drew))).trans HK6.out)
   go_wp2_with fail
   exact ⟨rfl, BdRes.err (by simp [Sy.bindB, Sy.iteB_takes, Sy.bnd, H2.out, H3.out, H4.out, H5.out, hx6]) HKE.out⟩
  have H6 := hid hx6
  have hn6 : ts6.length < N := Nat.lt_of_le_of_lt (hE.le _ _ (Nat.le_refl _) _ _ hx6) hn5
  obtain ⟨a6, l6, c6, rfl, HKd6, HR6, HK6⟩ := HD.yes hx6
  clear hx6 HD
  have ht6 := HK6.out.size
  have HBn_6 := hid ((show Blk _ w1.heap.size [_, _, _, _, _] by repeat (with_reducible (first | exact HBn_5.out | apply Blk.drew))).kp HK6.out (by omega))
  have HO4_6 := hid (own_kp (show World.ownsRow _ j4.heap.size 41 4 vn4 pl4.length (Lr.cellsOf pl4) by repeat (with_reducible (first | exact HO4_5.out | apply own_drew))) HK6.out (by omega))
  have HRS6 := hid ((show Blk _ w.heap.size [_, _, _, _, _] by repeat (with_reducible (first | exact HRS5.out | apply Blk.drew))).kp HK6.out (by omega))
  have HKA6 := hid ((show Kp b w _ by repeat (with_reducible (first | exact HKA5.out | apply Kp.drew))).trans HK6.out)
  go_wp2_with fail
  refine (dfunctions _ W1.heap.size j4.heap.size vn4 pl4 hpl4 HO4_6.out y6 a6 l6 c6 (by omega) (HKd6.out.weak (fun g hg _ => Nat.le_trans (by omega) hg))).mono ?_
  rintro en w7 ⟨a7, l7, c7, rfl, HKf7, HB7⟩
  have ht7 := HB7.out.size
  have HBn_7 := hid ((show Blk _ w1.heap.size [_, _, _, _, _] by repeat (with_reducible (first | exact HBn_6.out | apply Blk.drew))).past HB7.out)
  have HO4_7 := hid (Lr.own_below (show World.ownsRow _ j4.heap.size 41 4 vn4 pl4.length (Lr.cellsOf pl4) by repeat (with_reducible (first | exact HO4_6.out | apply own_drew))) HB7.out)
  have HRS7 := hid ((show Blk _ w.heap.size [_, _, _, _, _] by repeat (with_reducible (first | exact HRS6.out | apply Blk.drew))).past HB7.out)
  have HKA7 := hid ((show Kp b w _ by repeat (with_reducible (first | exact HKA6.out | apply Kp.drew))).below HB7.out)
  have HR7 := hid ((show Dr _ b z ts6 e d by repeat (with_reducible (first | exact HR6.out | apply Dr.drew))).below HB7.out)
  generalize hTT : Sy.fns pl4 y6 = TT at *
  obtain ⟨⟨b5_0, b5_1, b5_2, b5_3, b5_4⟩, b5_5, b5_6, b5_7, b5_8, b5_9⟩ := blk5 HBn_7.out
  obtain ⟨⟨u6_0, u6_1, u6_2, u6_3, u6_4⟩, u6_5, u6_6, u6_7, u6_8, u6_9⟩ := blk5 HRS7.out
  have hlw : w.heap.size < w7.heap.size := Blk.lt HRS7.out
  have hlA : w1.heap.size < w7.heap.size := Blk.lt HBn_7.out
  go_wp2_with fail
  refine bodyPost_ret (v := .agg #[.int .i64 9, .int .i64 t0.pos, .string ⟨t3.text.toArray⟩, .int .i64 1, .slice (some ⟨w7.heap.size, 0, none⟩) 1 1]) (by simp [results, Tryz.results32, go_sem, u6_0, u6_1, u6_2, u6_3, u6_4, hlw, hlA, hneA, hneB]) rfl ?_
  have hx : Sy.bindB z N E 0 tl = .ok ((1, t3.text, TT), ts6) := by simp [Sy.bindB, Sy.iteB_takes, Sy.bnd, H2.out, H3.out, H4.out, H5.out, H6.out, hTT]
  rw [hx]
  refine ⟨w7.heap.size, W1.heap.size, .slice a7 l7 c7, rfl, by omega, hid (rowS_lit [(TT, .slice a7 l7 c7)] (by simp) w7.heap.size (by simp) _ rfl 1 rfl (by decide) (by omega) ?_), hid ?_, hid ?_⟩
  ·intro p hp
   simp only [List.mem_cons, List.not_mem_nil, or_false] at hp
   subst hp
   exact (HKf7.out.carry (fun g hg _ => Below.heap_setCell _ _ _ _ (show g ≠ w1.heap.size by omega)) (fun g hg _ => hg)).carry (fun g hg _ => sto5_heap _ w.heap.size g _ _ _ _ _ (by omega)) (fun g hg _ => hg)
  ·exact (((HR7.out.other (show b < w1.heap.size by omega) _ _)).sto5 (by omega) _ _ _ _ _).alloc _
  ·exact (sto5_kp (HKA7.out.other (show w.heap.size ≤ w1.heap.size by omega) _ _) (Nat.le_refl _) _ _ _ _ _).alloc _
 | false =>
  go_wp2_with fail
  refine (dname _ b z ts2 e d (by repeat (with_reducible (first | exact HR2.out | apply Dr.drew)))).mono ?_
  intro en w3 HD
  rcases hx3 : Sy.kindB z 2 ts2 with f3 | ⟨t3, ts3⟩
  ·obtain ⟨rfl, HK3⟩ := HD.no hx3
   have HKE := hid ((show Kp b w _ by repeat (with_reducible (first | exact HKA2.out | apply Kp.drew))).trans HK3.out)
   go_wp2_with fail
   exact ⟨rfl, BdRes.err (by simp [Sy.bindB, Sy.iteB_takes, Sy.bnd, H2.out, hx3]) HKE.out⟩
  have H3 := hid hx3
  have hn3 : ts3.length < N := Nat.lt_of_le_of_lt (le_kind (Nat.le_refl _) _ _ hx3) hn2
  obtain ⟨rfl, HR3, HK3⟩ := HD.yes hx3
  dsimp only [tkV]
  clear hx3 HD
  have ht3 := HK3.out.size
  have HBn_3 := hid ((show Blk _ w1.heap.size [_, _, _, _, _] by repeat (with_reducible (first | exact HBn_2.out | apply Blk.drew))).kp HK3.out (by omega))
  have HRS3 := hid ((show Blk _ w.heap.size [_, _, _, _, _] by repeat (with_reducible (first | exact HRS2.out | apply Blk.drew))).kp HK3.out (by omega))
  have HKA3 := hid ((show Kp b w _ by repeat (with_reducible (first | exact HKA2.out | apply Kp.drew))).trans HK3.out)
  obtain ⟨hf3_0, hf3_1, hf3_2, hf3_3⟩ := fld_tk (.int .i64 t3.kind) (.int .i64 t3.pos) (.string ⟨t3.text.toArray⟩) (.int .i64 t3.num)
  obtain ⟨⟨b1_0, b1_1, b1_2, b1_3, b1_4⟩, b1_5, b1_6, b1_7, b1_8, b1_9⟩ := blk5 HBn_3.out
  obtain ⟨j2, hj2, HBj2, HRj2, HKj2, HSj2, hzj2⟩ := jset HBn_3.out HR3.out HKA3.out HRS3.out (by omega) (by omega) (by omega) 2 (by decide) (.string ⟨t3.text.toArray⟩)
  have Hj2 := hid hj2
  clear hj2
  have HBsj2 : Hid (Blk j2 w1.heap.size [.int .i64 9, .int .i64 t0.pos, .string ⟨t3.text.toArray⟩, .int .i64 0, .slice none 0 0]) := HBj2
  go_wp2_with fail
  rw [Hj2.out]
  refine (dnames N e d hN z _ b 0 (by decide) ts3 (by repeat (with_reducible (first | exact HRj2.out | apply Dr.drew))) hn3).mono ?_
  intro en w4 HD
  rcases hx4 : Sy.namesB z 0 N [] ts3 with f4 | ⟨pl4, ts4⟩
  ·obtain ⟨rfl, HK4⟩ := HD.no hx4
   have HKE := hid ((show Kp b w _ by repeat (with_reducible (first | exact HKj2.out | apply Kp.drew))).trans HK4.out)
   go_wp2_with fail
   exact ⟨rfl, BdRes.err (by simp [Sy.bindB, Sy.iteB_takes, Sy.bnd, H2.out, H3.out, hx4]) HKE.out⟩
  have H4 := hid hx4
  have hn4 : ts4.length < N := Nat.lt_of_le_of_lt (le_names _ _ _ (Nat.le_refl _) _ _ hx4) hn3
  have hpl4 : pl4.length ≤ 90000 := by have h1 := names_len _ _ _ _ _ hx4; simp only [List.length_nil] at h1; omega
  obtain ⟨vn4, rfl, HOW4, HR4, HK4⟩ := HD.yes hx4
  clear hx4 HD
  have ht4 := HK4.out.size
  have HBn_4 := hid ((show Blk _ w1.heap.size [_, _, _, _, _] by repeat (with_reducible (first | exact HBsj2.out | apply Blk.drew))).kp HK4.out (by omega))
  have HRS4 := hid ((show Blk _ w.heap.size [_, _, _, _, _] by repeat (with_reducible (first | exact HSj2.out | apply Blk.drew))).kp HK4.out (by omega))
  have HKA4 := hid ((show Kp b w _ by repeat (with_reducible (first | exact HKj2.out | apply Kp.drew))).trans HK4.out)
  go_wp2_with fail
  refine (dneed _ b z ts4 e d Sy.s_eq (by decide) (by repeat (with_reducible (first | exact HR4.out | apply Dr.drew)))).mono ?_
  intro en w5 HD
  rcases hx5 : Sy.needB z Sy.s_eq ts4 with f5 | ⟨u5, ts5⟩
  ·obtain ⟨rfl, HK5⟩ := HD.no hx5
   have HKE := hid ((show Kp b w _ by repeat (with_reducible (first | exact HKA4.out | apply Kp.drew))).trans HK5.out)
   go_wp2_with fail
   exact ⟨rfl, BdRes.err (by simp [Sy.bindB, Sy.iteB_takes, Sy.bnd, H2.out, H3.out, H4.out, hx5]) HKE.out⟩
  have H5 := hid hx5
  have hn5 : ts5.length < N := Nat.lt_of_le_of_lt (le_need (Nat.le_refl _) _ _ hx5) hn4
  obtain ⟨rfl, HR5, HK5⟩ := HD.yes hx5
  clear hx5 HD
  have ht5 := HK5.out.size
  have HBn_5 := hid ((show Blk _ w1.heap.size [_, _, _, _, _] by repeat (with_reducible (first | exact HBn_4.out | apply Blk.drew))).kp HK5.out (by omega))
  have HO4_5 := hid (own_kp (show World.ownsRow _ j2.heap.size 41 4 vn4 pl4.length (Lr.cellsOf pl4) by repeat (with_reducible (first | exact HOW4.out | apply own_drew))) HK5.out (by omega))
  have HRS5 := hid ((show Blk _ w.heap.size [_, _, _, _, _] by repeat (with_reducible (first | exact HRS4.out | apply Blk.drew))).kp HK5.out (by omega))
  have HKA5 := hid ((show Kp b w _ by repeat (with_reducible (first | exact HKA4.out | apply Kp.drew))).trans HK5.out)
  go_wp2_with fail
  refine (hE.calls _ b ts5 (by repeat (with_reducible (first | exact HR5.out | apply Dr.drew))) hn5).mono ?_
  intro en w6 HD
  rcases hx6 : E ts5 with f6 | ⟨y6, ts6⟩
  ·obtain ⟨rfl, HK6⟩ := HD.no hx6
   have HKE := hid ((show Kp b w _ by repeat (with_reducible (first | exact HKA5.out | apply Kp.drew))).trans HK6.out)
   go_wp2_with fail
   exact ⟨rfl, BdRes.err (by simp [Sy.bindB, Sy.iteB_takes, Sy.bnd, H2.out, H3.out, H4.out, H5.out, hx6]) HKE.out⟩
  have H6 := hid hx6
  have hn6 : ts6.length < N := Nat.lt_of_le_of_lt (hE.le _ _ (Nat.le_refl _) _ _ hx6) hn5
  obtain ⟨a6, l6, c6, rfl, HKd6, HR6, HK6⟩ := HD.yes hx6
  clear hx6 HD
  have ht6 := HK6.out.size
  have HBn_6 := hid ((show Blk _ w1.heap.size [_, _, _, _, _] by repeat (with_reducible (first | exact HBn_5.out | apply Blk.drew))).kp HK6.out (by omega))
  have HO4_6 := hid (own_kp (show World.ownsRow _ j2.heap.size 41 4 vn4 pl4.length (Lr.cellsOf pl4) by repeat (with_reducible (first | exact HO4_5.out | apply own_drew))) HK6.out (by omega))
  have HRS6 := hid ((show Blk _ w.heap.size [_, _, _, _, _] by repeat (with_reducible (first | exact HRS5.out | apply Blk.drew))).kp HK6.out (by omega))
  have HKA6 := hid ((show Kp b w _ by repeat (with_reducible (first | exact HKA5.out | apply Kp.drew))).trans HK6.out)
  go_wp2_with fail
  refine (dfunctions _ W1.heap.size j2.heap.size vn4 pl4 hpl4 HO4_6.out y6 a6 l6 c6 (by omega) (HKd6.out.weak (fun g hg _ => Nat.le_trans (by omega) hg))).mono ?_
  rintro en w7 ⟨a7, l7, c7, rfl, HKf7, HB7⟩
  have ht7 := HB7.out.size
  have HBn_7 := hid ((show Blk _ w1.heap.size [_, _, _, _, _] by repeat (with_reducible (first | exact HBn_6.out | apply Blk.drew))).past HB7.out)
  have HO4_7 := hid (Lr.own_below (show World.ownsRow _ j2.heap.size 41 4 vn4 pl4.length (Lr.cellsOf pl4) by repeat (with_reducible (first | exact HO4_6.out | apply own_drew))) HB7.out)
  have HRS7 := hid ((show Blk _ w.heap.size [_, _, _, _, _] by repeat (with_reducible (first | exact HRS6.out | apply Blk.drew))).past HB7.out)
  have HKA7 := hid ((show Kp b w _ by repeat (with_reducible (first | exact HKA6.out | apply Kp.drew))).below HB7.out)
  have HR7 := hid ((show Dr _ b z ts6 e d by repeat (with_reducible (first | exact HR6.out | apply Dr.drew))).below HB7.out)
  generalize hTT : Sy.fns pl4 y6 = TT at *
  obtain ⟨⟨b3_0, b3_1, b3_2, b3_3, b3_4⟩, b3_5, b3_6, b3_7, b3_8, b3_9⟩ := blk5 HBn_7.out
  obtain ⟨⟨u4_0, u4_1, u4_2, u4_3, u4_4⟩, u4_5, u4_6, u4_7, u4_8, u4_9⟩ := blk5 HRS7.out
  have hlw : w.heap.size < w7.heap.size := Blk.lt HRS7.out
  have hlA : w1.heap.size < w7.heap.size := Blk.lt HBn_7.out
  go_wp2_with fail
  refine bodyPost_ret (v := .agg #[.int .i64 9, .int .i64 t0.pos, .string ⟨t3.text.toArray⟩, .int .i64 0, .slice (some ⟨w7.heap.size, 0, none⟩) 1 1]) (by simp [results, Tryz.results32, go_sem, u4_0, u4_1, u4_2, u4_3, u4_4, hlw, hlA, hneA, hneB]) rfl ?_
  have hx : Sy.bindB z N E 0 tl = .ok ((0, t3.text, TT), ts6) := by simp [Sy.bindB, Sy.iteB_takes, Sy.bnd, H2.out, H3.out, H4.out, H5.out, H6.out, hTT]
  rw [hx]
  refine ⟨w7.heap.size, W1.heap.size, .slice a7 l7 c7, rfl, by omega, hid (rowS_lit [(TT, .slice a7 l7 c7)] (by simp) w7.heap.size (by simp) _ rfl 1 rfl (by decide) (by omega) ?_), hid ?_, hid ?_⟩
  ·intro p hp
   simp only [List.mem_cons, List.not_mem_nil, or_false] at hp
   subst hp
   exact (HKf7.out.carry (fun g hg _ => Below.heap_setCell _ _ _ _ (show g ≠ w1.heap.size by omega)) (fun g hg _ => hg)).carry (fun g hg _ => sto5_heap _ w.heap.size g _ _ _ _ _ (by omega)) (fun g hg _ => hg)
  ·exact (((HR7.out.other (show b < w1.heap.size by omega) _ _)).sto5 (by omega) _ _ _ _ _).alloc _
  ·exact (sto5_kp (HKA7.out.other (show w.heap.size ≤ w1.heap.size by omega) _ _) (Nat.le_refl _) _ _ _ _ _).alloc _

theorem dbindDef (N e d : Nat) (hN : N ≤ 90000) (z : Sy.Env) (E : List Lx.Tk → Sy.R Sy.Tr) (hE : EOK N e d z E) (w : World) (b : Nat) (t0 : Lx.Tk) (tl : List Lx.Tk) (h : Dr w b z (t0 :: tl) e d) (hn : (t0 :: tl).length < N) :
  Calls Tryz.prog 32 #[.pointer (some ⟨b, 0, none⟩), .int .i64 2] w fun en w' => BdRes w b z (Sy.bindB z N E 1 tl) 2 t0.pos e d en w' := by
 have H := hid h
 have hbR : b < w.heap.size := h.lt
 clear h
 go_enter Tryz.func32, Tryz.ntmps32
 go_wp2_with fail
 obtain ⟨W0, hW0, HI⟩ := jn1 H.out 24
 rw [hW0]
 clear hW0
 have hz0 := HI.out.size
 have hlt0 : tl.length < N := by simp only [List.length_cons] at hn; omega
 obtain ⟨hf0, hf1, hf2, hf3⟩ := fld_tk (.int .i64 t0.kind) (.int .i64 t0.pos) (.string ⟨t0.text.toArray⟩) (.int .i64 t0.num)
 refine (dtake _ b z t0 tl e d (by repeat (with_reducible (first | exact HI.out.rd | apply Dr.drew)))).mono ?_
 intro en w1 HD
 obtain ⟨rfl, HR1, HK1⟩ := HD.yes rfl
 dsimp only [tkV]
 clear HD
 have ht1 := HK1.out.size
 have HRS1 := hid ((show Blk _ w.heap.size [_, _, _, _, _] by repeat (with_reducible (first | exact HI.out.one | apply Blk.drew))).kp HK1.out (by omega))
 have HKA1 := hid ((show Kp b w _ by repeat (with_reducible (first | exact HI.out.kp | apply Kp.drew))).trans HK1.out)
 obtain ⟨W1, hW1, HB1, HRd1, HKp1, hs1, hu1⟩ := jblk_new (.int .i64 2) (.int .i64 t0.pos) (.string ⟨#[]⟩) (.int .i64 0) (.slice none 0 0) HR1.out HK1.out 24
 have HRSx := hid (HI.out.one.kp HKp1.out (by omega))
 have HKAx := hid (HI.out.kp.trans HKp1.out)
 have HWW := hid hW1
 clear hW1
 go_wp2_with fail
 rw [HWW.out]
 have hneA : ¬ w1.heap.size = w.heap.size := by omega
 have hneB : ¬ w.heap.size = w1.heap.size := by omega
 refine (dtakes _ b z tl e d Sy.w_rec (by decide) (by repeat (with_reducible (first | exact HRd1.out | apply Dr.drew)))).mono ?_
 intro en w2 HD
 rcases hx2 : Sy.takesB z Sy.w_rec tl with f2 | ⟨v2, ts2⟩
 ·obtain ⟨rfl, HK2⟩ := HD.no hx2
  have HKE := hid ((show Kp b w _ by repeat (with_reducible (first | exact HKAx.out | apply Kp.drew))).trans HK2.out)
  go_wp2_with fail
  exact ⟨rfl, BdRes.err (by simp [Sy.bindB, Sy.iteB_takes, Sy.bnd, hx2]) HKE.out⟩
 have H2 := hid hx2
 have hn2 : ts2.length < N := Nat.lt_of_le_of_lt (le_takes (Nat.le_refl _) _ _ hx2) hlt0
 obtain ⟨rfl, HR2, HK2⟩ := HD.yes hx2
 clear hx2 HD
 have ht2 := HK2.out.size
 have HBn_2 := hid ((show Blk _ w1.heap.size [_, _, _, _, _] by repeat (with_reducible (first | exact HB1.out | apply Blk.drew))).kp HK2.out (by omega))
 have HRS2 := hid ((show Blk _ w.heap.size [_, _, _, _, _] by repeat (with_reducible (first | exact HRSx.out | apply Blk.drew))).kp HK2.out (by omega))
 have HKA2 := hid ((show Kp b w _ by repeat (with_reducible (first | exact HKAx.out | apply Kp.drew))).trans HK2.out)
 cases v2 with
 | true =>
  obtain ⟨⟨b1_0, b1_1, b1_2, b1_3, b1_4⟩, b1_5, b1_6, b1_7, b1_8, b1_9⟩ := blk5 HBn_2.out
  obtain ⟨j2, hj2, HBj2, HRj2, HKj2, HSj2, hzj2⟩ := jset HBn_2.out HR2.out HKA2.out HRS2.out (by omega) (by omega) (by omega) 3 (by decide) (.int .i64 1)
  have Hj2 := hid hj2
  clear hj2
  have HBsj2 : Hid (Blk j2 w1.heap.size [.int .i64 2, .int .i64 t0.pos, .string ⟨#[]⟩, .int .i64 1, .slice none 0 0]) := HBj2
  go_wp2_with fail
  rw [Hj2.out]
  refine (dname _ b z ts2 e d (by repeat (with_reducible (first | exact HRj2.out | apply Dr.drew)))).mono ?_
  intro en w3 HD
  rcases hx3 : Sy.kindB z 2 ts2 with f3 | ⟨t3, ts3⟩
  ·obtain ⟨rfl, HK3⟩ := HD.no hx3
   have HKE := hid ((show Kp b w _ by repeat (with_reducible (first | exact HKj2.out | apply Kp.drew))).trans HK3.out)
   go_wp2_with fail
   exact ⟨rfl, BdRes.err (by simp [Sy.bindB, Sy.iteB_takes, Sy.bnd, H2.out, hx3]) HKE.out⟩
  have H3 := hid hx3
  have hn3 : ts3.length < N := Nat.lt_of_le_of_lt (le_kind (Nat.le_refl _) _ _ hx3) hn2
  obtain ⟨rfl, HR3, HK3⟩ := HD.yes hx3
  dsimp only [tkV]
  clear hx3 HD
  have ht3 := HK3.out.size
  have HBn_3 := hid ((show Blk _ w1.heap.size [_, _, _, _, _] by repeat (with_reducible (first | exact HBsj2.out | apply Blk.drew))).kp HK3.out (by omega))
  have HRS3 := hid ((show Blk _ w.heap.size [_, _, _, _, _] by repeat (with_reducible (first | exact HSj2.out | apply Blk.drew))).kp HK3.out (by omega))
  have HKA3 := hid ((show Kp b w _ by repeat (with_reducible (first | exact HKj2.out | apply Kp.drew))).trans HK3.out)
  obtain ⟨hf3_0, hf3_1, hf3_2, hf3_3⟩ := fld_tk (.int .i64 t3.kind) (.int .i64 t3.pos) (.string ⟨t3.text.toArray⟩) (.int .i64 t3.num)
  obtain ⟨⟨b3_0, b3_1, b3_2, b3_3, b3_4⟩, b3_5, b3_6, b3_7, b3_8, b3_9⟩ := blk5 HBn_3.out
  obtain ⟨j4, hj4, HBj4, HRj4, HKj4, HSj4, hzj4⟩ := jset HBn_3.out HR3.out HKA3.out HRS3.out (by omega) (by omega) (by omega) 2 (by decide) (.string ⟨t3.text.toArray⟩)
  have Hj4 := hid hj4
  clear hj4
  have HBsj4 : Hid (Blk j4 w1.heap.size [.int .i64 2, .int .i64 t0.pos, .string ⟨t3.text.toArray⟩, .int .i64 1, .slice none 0 0]) := HBj4
  go_wp2_with fail
  rw [Hj4.out]
  refine (dnames N e d hN z _ b 1 (by decide) ts3 (by repeat (with_reducible (first | exact HRj4.out | apply Dr.drew))) hn3).mono ?_
  intro en w4 HD
  rcases hx4 : Sy.namesB z 1 N [] ts3 with f4 | ⟨pl4, ts4⟩
  ·obtain ⟨rfl, HK4⟩ := HD.no hx4
   have HKE := hid ((show Kp b w _ by repeat (with_reducible (first | exact HKj4.out | apply Kp.drew))).trans HK4.out)
   go_wp2_with fail
   exact ⟨rfl, BdRes.err (by simp [Sy.bindB, Sy.iteB_takes, Sy.bnd, H2.out, H3.out, hx4]) HKE.out⟩
  have H4 := hid hx4
  have hn4 : ts4.length < N := Nat.lt_of_le_of_lt (le_names _ _ _ (Nat.le_refl _) _ _ hx4) hn3
  have hpl4 : pl4.length ≤ 90000 := by have h1 := names_len _ _ _ _ _ hx4; simp only [List.length_nil] at h1; omega
  obtain ⟨vn4, rfl, HOW4, HR4, HK4⟩ := HD.yes hx4
  clear hx4 HD
  have ht4 := HK4.out.size
  have HBn_4 := hid ((show Blk _ w1.heap.size [_, _, _, _, _] by repeat (with_reducible (first | exact HBsj4.out | apply Blk.drew))).kp HK4.out (by omega))
  have HRS4 := hid ((show Blk _ w.heap.size [_, _, _, _, _] by repeat (with_reducible (first | exact HSj4.out | apply Blk.drew))).kp HK4.out (by omega))
  have HKA4 := hid ((show Kp b w _ by repeat (with_reducible (first | exact HKj4.out | apply Kp.drew))).trans HK4.out)
  go_wp2_with fail
  refine (dneed _ b z ts4 e d Sy.s_eq (by decide) (by repeat (with_reducible (first | exact HR4.out | apply Dr.drew)))).mono ?_
  intro en w5 HD
  rcases hx5 : Sy.needB z Sy.s_eq ts4 with f5 | ⟨u5, ts5⟩
  ·obtain ⟨rfl, HK5⟩ := HD.no hx5
   have HKE := hid ((show Kp b w _ by repeat (with_reducible (first | exact HKA4.out | apply Kp.drew))).trans HK5.out)
   go_wp2_with fail
   exact ⟨rfl, BdRes.err (by simp [Sy.bindB, Sy.iteB_takes, Sy.bnd, H2.out, H3.out, H4.out, hx5]) HKE.out⟩
  have H5 := hid hx5
  have hn5 : ts5.length < N := Nat.lt_of_le_of_lt (le_need (Nat.le_refl _) _ _ hx5) hn4
  obtain ⟨rfl, HR5, HK5⟩ := HD.yes hx5
  clear hx5 HD
  have ht5 := HK5.out.size
  have HBn_5 := hid ((show Blk _ w1.heap.size [_, _, _, _, _] by repeat (with_reducible (first | exact HBn_4.out | apply Blk.drew))).kp HK5.out (by omega))
  have HO4_5 := hid (own_kp (show World.ownsRow _ j4.heap.size 41 4 vn4 pl4.length (Lr.cellsOf pl4) by repeat (with_reducible (first | exact HOW4.out | apply own_drew))) HK5.out (by omega))
  have HRS5 := hid ((show Blk _ w.heap.size [_, _, _, _, _] by repeat (with_reducible (first | exact HRS4.out | apply Blk.drew))).kp HK5.out (by omega))
  have HKA5 := hid ((show Kp b w _ by repeat (with_reducible (first | exact HKA4.out | apply Kp.drew))).trans HK5.out)
  go_wp2_with fail
  refine (hE.calls _ b ts5 (by repeat (with_reducible (first | exact HR5.out | apply Dr.drew))) hn5).mono ?_
  intro en w6 HD
  rcases hx6 : E ts5 with f6 | ⟨y6, ts6⟩
  ·obtain ⟨rfl, HK6⟩ := HD.no hx6
   have HKE := hid ((show Kp b w _ by repeat (with_reducible (first | exact HKA5.out | apply Kp.drew))).trans HK6.out)
   go_wp2_with fail
   exact ⟨rfl, BdRes.err (by simp [Sy.bindB, Sy.iteB_takes, Sy.bnd, H2.out, H3.out, H4.out, H5.out, hx6]) HKE.out⟩
  have H6 := hid hx6
  have hn6 : ts6.length < N := Nat.lt_of_le_of_lt (hE.le _ _ (Nat.le_refl _) _ _ hx6) hn5
  obtain ⟨a6, l6, c6, rfl, HKd6, HR6, HK6⟩ := HD.yes hx6
  clear hx6 HD
  have ht6 := HK6.out.size
  have HBn_6 := hid ((show Blk _ w1.heap.size [_, _, _, _, _] by repeat (with_reducible (first | exact HBn_5.out | apply Blk.drew))).kp HK6.out (by omega))
  have HO4_6 := hid (own_kp (show World.ownsRow _ j4.heap.size 41 4 vn4 pl4.length (Lr.cellsOf pl4) by repeat (with_reducible (first | exact HO4_5.out | apply own_drew))) HK6.out (by omega))
  have HRS6 := hid ((show Blk _ w.heap.size [_, _, _, _, _] by repeat (with_reducible (first | exact HRS5.out | apply Blk.drew))).kp HK6.out (by omega))
  have HKA6 := hid ((show Kp b w _ by repeat (with_reducible (first | exact HKA5.out | apply Kp.drew))).trans HK6.out)
  go_wp2_with fail
  refine (dfunctions _ W1.heap.size j4.heap.size vn4 pl4 hpl4 HO4_6.out y6 a6 l6 c6 (by omega) (HKd6.out.weak (fun g hg _ => Nat.le_trans (by omega) hg))).mono ?_
  rintro en w7 ⟨a7, l7, c7, rfl, HKf7, HB7⟩
  have ht7 := HB7.out.size
  have HBn_7 := hid ((show Blk _ w1.heap.size [_, _, _, _, _] by repeat (with_reducible (first | exact HBn_6.out | apply Blk.drew))).past HB7.out)
  have HO4_7 := hid (Lr.own_below (show World.ownsRow _ j4.heap.size 41 4 vn4 pl4.length (Lr.cellsOf pl4) by repeat (with_reducible (first | exact HO4_6.out | apply own_drew))) HB7.out)
  have HRS7 := hid ((show Blk _ w.heap.size [_, _, _, _, _] by repeat (with_reducible (first | exact HRS6.out | apply Blk.drew))).past HB7.out)
  have HKA7 := hid ((show Kp b w _ by repeat (with_reducible (first | exact HKA6.out | apply Kp.drew))).below HB7.out)
  have HR7 := hid ((show Dr _ b z ts6 e d by repeat (with_reducible (first | exact HR6.out | apply Dr.drew))).below HB7.out)
  generalize hTT : Sy.fns pl4 y6 = TT at *
  obtain ⟨⟨b5_0, b5_1, b5_2, b5_3, b5_4⟩, b5_5, b5_6, b5_7, b5_8, b5_9⟩ := blk5 HBn_7.out
  obtain ⟨⟨u6_0, u6_1, u6_2, u6_3, u6_4⟩, u6_5, u6_6, u6_7, u6_8, u6_9⟩ := blk5 HRS7.out
  have hlw : w.heap.size < w7.heap.size := Blk.lt HRS7.out
  have hlA : w1.heap.size < w7.heap.size := Blk.lt HBn_7.out
  go_wp2_with fail
  refine bodyPost_ret (v := .agg #[.int .i64 2, .int .i64 t0.pos, .string ⟨t3.text.toArray⟩, .int .i64 1, .slice (some ⟨w7.heap.size, 0, none⟩) 1 1]) (by simp [results, Tryz.results32, go_sem, u6_0, u6_1, u6_2, u6_3, u6_4, hlw, hlA, hneA, hneB]) rfl ?_
  have hx : Sy.bindB z N E 1 tl = .ok ((1, t3.text, TT), ts6) := by simp [Sy.bindB, Sy.iteB_takes, Sy.bnd, H2.out, H3.out, H4.out, H5.out, H6.out, hTT]
  rw [hx]
  refine ⟨w7.heap.size, W1.heap.size, .slice a7 l7 c7, rfl, by omega, hid (rowS_lit [(TT, .slice a7 l7 c7)] (by simp) w7.heap.size (by simp) _ rfl 1 rfl (by decide) (by omega) ?_), hid ?_, hid ?_⟩
  ·intro p hp
   simp only [List.mem_cons, List.not_mem_nil, or_false] at hp
   subst hp
   exact (HKf7.out.carry (fun g hg _ => Below.heap_setCell _ _ _ _ (show g ≠ w1.heap.size by omega)) (fun g hg _ => hg)).carry (fun g hg _ => sto5_heap _ w.heap.size g _ _ _ _ _ (by omega)) (fun g hg _ => hg)
  ·exact (((HR7.out.other (show b < w1.heap.size by omega) _ _)).sto5 (by omega) _ _ _ _ _).alloc _
  ·exact (sto5_kp (HKA7.out.other (show w.heap.size ≤ w1.heap.size by omega) _ _) (Nat.le_refl _) _ _ _ _ _).alloc _
 | false =>
  go_wp2_with fail
  refine (dname _ b z ts2 e d (by repeat (with_reducible (first | exact HR2.out | apply Dr.drew)))).mono ?_
  intro en w3 HD
  rcases hx3 : Sy.kindB z 2 ts2 with f3 | ⟨t3, ts3⟩
  ·obtain ⟨rfl, HK3⟩ := HD.no hx3
   have HKE := hid ((show Kp b w _ by repeat (with_reducible (first | exact HKA2.out | apply Kp.drew))).trans HK3.out)
   go_wp2_with fail
   exact ⟨rfl, BdRes.err (by simp [Sy.bindB, Sy.iteB_takes, Sy.bnd, H2.out, hx3]) HKE.out⟩
  have H3 := hid hx3
  have hn3 : ts3.length < N := Nat.lt_of_le_of_lt (le_kind (Nat.le_refl _) _ _ hx3) hn2
  obtain ⟨rfl, HR3, HK3⟩ := HD.yes hx3
  dsimp only [tkV]
  clear hx3 HD
  have ht3 := HK3.out.size
  have HBn_3 := hid ((show Blk _ w1.heap.size [_, _, _, _, _] by repeat (with_reducible (first | exact HBn_2.out | apply Blk.drew))).kp HK3.out (by omega))
  have HRS3 := hid ((show Blk _ w.heap.size [_, _, _, _, _] by repeat (with_reducible (first | exact HRS2.out | apply Blk.drew))).kp HK3.out (by omega))
  have HKA3 := hid ((show Kp b w _ by repeat (with_reducible (first | exact HKA2.out | apply Kp.drew))).trans HK3.out)
  obtain ⟨hf3_0, hf3_1, hf3_2, hf3_3⟩ := fld_tk (.int .i64 t3.kind) (.int .i64 t3.pos) (.string ⟨t3.text.toArray⟩) (.int .i64 t3.num)
  obtain ⟨⟨b1_0, b1_1, b1_2, b1_3, b1_4⟩, b1_5, b1_6, b1_7, b1_8, b1_9⟩ := blk5 HBn_3.out
  obtain ⟨j2, hj2, HBj2, HRj2, HKj2, HSj2, hzj2⟩ := jset HBn_3.out HR3.out HKA3.out HRS3.out (by omega) (by omega) (by omega) 2 (by decide) (.string ⟨t3.text.toArray⟩)
  have Hj2 := hid hj2
  clear hj2
  have HBsj2 : Hid (Blk j2 w1.heap.size [.int .i64 2, .int .i64 t0.pos, .string ⟨t3.text.toArray⟩, .int .i64 0, .slice none 0 0]) := HBj2
  go_wp2_with fail
  rw [Hj2.out]
  refine (dnames N e d hN z _ b 1 (by decide) ts3 (by repeat (with_reducible (first | exact HRj2.out | apply Dr.drew))) hn3).mono ?_
  intro en w4 HD
  rcases hx4 : Sy.namesB z 1 N [] ts3 with f4 | ⟨pl4, ts4⟩
  ·obtain ⟨rfl, HK4⟩ := HD.no hx4
   have HKE := hid ((show Kp b w _ by repeat (with_reducible (first | exact HKj2.out | apply Kp.drew))).trans HK4.out)
   go_wp2_with fail
   exact ⟨rfl, BdRes.err (by simp [Sy.bindB, Sy.iteB_takes, Sy.bnd, H2.out, H3.out, hx4]) HKE.out⟩
  have H4 := hid hx4
  have hn4 : ts4.length < N := Nat.lt_of_le_of_lt (le_names _ _ _ (Nat.le_refl _) _ _ hx4) hn3
  have hpl4 : pl4.length ≤ 90000 := by have h1 := names_len _ _ _ _ _ hx4; simp only [List.length_nil] at h1; omega
  obtain ⟨vn4, rfl, HOW4, HR4, HK4⟩ := HD.yes hx4
  clear hx4 HD
  have ht4 := HK4.out.size
  have HBn_4 := hid ((show Blk _ w1.heap.size [_, _, _, _, _] by repeat (with_reducible (first | exact HBsj2.out | apply Blk.drew))).kp HK4.out (by omega))
  have HRS4 := hid ((show Blk _ w.heap.size [_, _, _, _, _] by repeat (with_reducible (first | exact HSj2.out | apply Blk.drew))).kp HK4.out (by omega))
  have HKA4 := hid ((show Kp b w _ by repeat (with_reducible (first | exact HKj2.out | apply Kp.drew))).trans HK4.out)
  go_wp2_with fail
  refine (dneed _ b z ts4 e d Sy.s_eq (by decide) (by repeat (with_reducible (first | exact HR4.out | apply Dr.drew)))).mono ?_
  intro en w5 HD
  rcases hx5 : Sy.needB z Sy.s_eq ts4 with f5 | ⟨u5, ts5⟩
  ·obtain ⟨rfl, HK5⟩ := HD.no hx5
   have HKE := hid ((show Kp b w _ by repeat (with_reducible (first | exact HKA4.out | apply Kp.drew))).trans HK5.out)
   go_wp2_with fail
   exact ⟨rfl, BdRes.err (by simp [Sy.bindB, Sy.iteB_takes, Sy.bnd, H2.out, H3.out, H4.out, hx5]) HKE.out⟩
  have H5 := hid hx5
  have hn5 : ts5.length < N := Nat.lt_of_le_of_lt (le_need (Nat.le_refl _) _ _ hx5) hn4
  obtain ⟨rfl, HR5, HK5⟩ := HD.yes hx5
  clear hx5 HD
  have ht5 := HK5.out.size
  have HBn_5 := hid ((show Blk _ w1.heap.size [_, _, _, _, _] by repeat (with_reducible (first | exact HBn_4.out | apply Blk.drew))).kp HK5.out (by omega))
  have HO4_5 := hid (own_kp (show World.ownsRow _ j2.heap.size 41 4 vn4 pl4.length (Lr.cellsOf pl4) by repeat (with_reducible (first | exact HOW4.out | apply own_drew))) HK5.out (by omega))
  have HRS5 := hid ((show Blk _ w.heap.size [_, _, _, _, _] by repeat (with_reducible (first | exact HRS4.out | apply Blk.drew))).kp HK5.out (by omega))
  have HKA5 := hid ((show Kp b w _ by repeat (with_reducible (first | exact HKA4.out | apply Kp.drew))).trans HK5.out)
  go_wp2_with fail
  refine (hE.calls _ b ts5 (by repeat (with_reducible (first | exact HR5.out | apply Dr.drew))) hn5).mono ?_
  intro en w6 HD
  rcases hx6 : E ts5 with f6 | ⟨y6, ts6⟩
  ·obtain ⟨rfl, HK6⟩ := HD.no hx6
   have HKE := hid ((show Kp b w _ by repeat (with_reducible (first | exact HKA5.out | apply Kp.drew))).trans HK6.out)
   go_wp2_with fail
   exact ⟨rfl, BdRes.err (by simp [Sy.bindB, Sy.iteB_takes, Sy.bnd, H2.out, H3.out, H4.out, H5.out, hx6]) HKE.out⟩
  have H6 := hid hx6
  have hn6 : ts6.length < N := Nat.lt_of_le_of_lt (hE.le _ _ (Nat.le_refl _) _ _ hx6) hn5
  obtain ⟨a6, l6, c6, rfl, HKd6, HR6, HK6⟩ := HD.yes hx6
  clear hx6 HD
  have ht6 := HK6.out.size
  have HBn_6 := hid ((show Blk _ w1.heap.size [_, _, _, _, _] by repeat (with_reducible (first | exact HBn_5.out | apply Blk.drew))).kp HK6.out (by omega))
  have HO4_6 := hid (own_kp (show World.ownsRow _ j2.heap.size 41 4 vn4 pl4.length (Lr.cellsOf pl4) by repeat (with_reducible (first | exact HO4_5.out | apply own_drew))) HK6.out (by omega))
  have HRS6 := hid ((show Blk _ w.heap.size [_, _, _, _, _] by repeat (with_reducible (first | exact HRS5.out | apply Blk.drew))).kp HK6.out (by omega))
  have HKA6 := hid ((show Kp b w _ by repeat (with_reducible (first | exact HKA5.out | apply Kp.drew))).trans HK6.out)
  go_wp2_with fail
  refine (dfunctions _ W1.heap.size j2.heap.size vn4 pl4 hpl4 HO4_6.out y6 a6 l6 c6 (by omega) (HKd6.out.weak (fun g hg _ => Nat.le_trans (by omega) hg))).mono ?_
  rintro en w7 ⟨a7, l7, c7, rfl, HKf7, HB7⟩
  have ht7 := HB7.out.size
  have HBn_7 := hid ((show Blk _ w1.heap.size [_, _, _, _, _] by repeat (with_reducible (first | exact HBn_6.out | apply Blk.drew))).past HB7.out)
  have HO4_7 := hid (Lr.own_below (show World.ownsRow _ j2.heap.size 41 4 vn4 pl4.length (Lr.cellsOf pl4) by repeat (with_reducible (first | exact HO4_6.out | apply own_drew))) HB7.out)
  have HRS7 := hid ((show Blk _ w.heap.size [_, _, _, _, _] by repeat (with_reducible (first | exact HRS6.out | apply Blk.drew))).past HB7.out)
  have HKA7 := hid ((show Kp b w _ by repeat (with_reducible (first | exact HKA6.out | apply Kp.drew))).below HB7.out)
  have HR7 := hid ((show Dr _ b z ts6 e d by repeat (with_reducible (first | exact HR6.out | apply Dr.drew))).below HB7.out)
  generalize hTT : Sy.fns pl4 y6 = TT at *
  obtain ⟨⟨b3_0, b3_1, b3_2, b3_3, b3_4⟩, b3_5, b3_6, b3_7, b3_8, b3_9⟩ := blk5 HBn_7.out
  obtain ⟨⟨u4_0, u4_1, u4_2, u4_3, u4_4⟩, u4_5, u4_6, u4_7, u4_8, u4_9⟩ := blk5 HRS7.out
  have hlw : w.heap.size < w7.heap.size := Blk.lt HRS7.out
  have hlA : w1.heap.size < w7.heap.size := Blk.lt HBn_7.out
  go_wp2_with fail
  refine bodyPost_ret (v := .agg #[.int .i64 2, .int .i64 t0.pos, .string ⟨t3.text.toArray⟩, .int .i64 0, .slice (some ⟨w7.heap.size, 0, none⟩) 1 1]) (by simp [results, Tryz.results32, go_sem, u4_0, u4_1, u4_2, u4_3, u4_4, hlw, hlA, hneA, hneB]) rfl ?_
  have hx : Sy.bindB z N E 1 tl = .ok ((0, t3.text, TT), ts6) := by simp [Sy.bindB, Sy.iteB_takes, Sy.bnd, H2.out, H3.out, H4.out, H5.out, H6.out, hTT]
  rw [hx]
  refine ⟨w7.heap.size, W1.heap.size, .slice a7 l7 c7, rfl, by omega, hid (rowS_lit [(TT, .slice a7 l7 c7)] (by simp) w7.heap.size (by simp) _ rfl 1 rfl (by decide) (by omega) ?_), hid ?_, hid ?_⟩
  ·intro p hp
   simp only [List.mem_cons, List.not_mem_nil, or_false] at hp
   subst hp
   exact (HKf7.out.carry (fun g hg _ => Below.heap_setCell _ _ _ _ (show g ≠ w1.heap.size by omega)) (fun g hg _ => hg)).carry (fun g hg _ => sto5_heap _ w.heap.size g _ _ _ _ _ (by omega)) (fun g hg _ => hg)
  ·exact (((HR7.out.other (show b < w1.heap.size by omega) _ _)).sto5 (by omega) _ _ _ _ _).alloc _
  ·exact (sto5_kp (HKA7.out.other (show w.heap.size ≤ w1.heap.size by omega) _ _) (Nat.le_refl _) _ _ _ _ _).alloc _
end Go.Proofs.YtoajnlhegallpaaGreatDoor
