/-
  What the program's rules do: let.
  What the program's rules do: clause.
-/
import Derived.Test.YtoajnlhegallpaaGreatDoorMDp
import Derived.Deep.AppendLies
import Derived.Deep.RegionLaw
import Derived.BigRegion
set_option linter.unusedVariables false
set_option linter.unusedSimpArgs false
set_option maxRecDepth 100000
set_option maxHeartbeats 4000000
namespace Go.Proofs.YtoajnlhegallpaaGreatDoor
open Go.RowKit

theorem Dr.grown {W W' : World} {b e d : Nat} {z : Sy.Env} {ts : List Lx.Tk} {ob : Option Nat} (h : Dr W b z ts e d) (hg : W.grownBy W' ob) (hne : ∀ q, q ≤ b → some q ≠ ob) : Dr W' b z ts e d := by
 have hl := h.lt
 obtain ⟨hg1, g1, n, c, i, h1, h2, h3, h4, h5, h6, h7⟩ := h
 have hgg : W'.heap[g1]? = W.heap[g1]? := hg.block g1 h7.lt (hne g1 (by omega))
 exact ⟨hg1, g1, n, c, i, h1.of_heap (hg.block b hl (hne b (Nat.le_refl _))), h2, h3, h4, h5, fun j hj => (h6 j hj).of_heap hgg, h7.of_heap hgg⟩
theorem Kp.grown {w W W' : World} {b : Nat} {ob : Option Nat} (hk : Kp b w W) (hg : W.grownBy W' ob) (hne : ∀ q, q < w.heap.size → some q ≠ ob) : Kp b w W' :=
 ⟨hg.os.trans hk.os, hg.tape.trans hk.tape, hg.output.trans hk.output, Nat.le_trans hk.size hg.size, fun i hi hn => (hg.block i (Nat.lt_of_lt_of_le hi hk.size) (hne i hi)).trans (hk.block i hi hn)⟩
theorem Blk.grown {W W' : World} {A : Nat} {v : Value} {vs : List Value} {ob : Option Nat} (h : Blk W A (v :: vs)) (hg : W.grownBy W' ob) (hne : some A ≠ ob) : Blk W' A (v :: vs) := h.of_heap (hg.block A h.lt hne)
theorem Kids.grown {W W' : World} {F : Nat → Prop} {v : Value} {l : List Sy.Tr} {ob : Option Nat} (h : Kids W F v l) (hg : W.grownBy W' ob) (hne : ∀ q, F q → some q ≠ ob) : Kids W' F v l := h.carry (fun q hq hlt => hg.block q hlt (hne q hq)) (fun _ hq _ => hq)
theorem kids_own {W : World} {F : Nat → Prop} {base g n cap : Nat} {ls : List (Sy.Tr × Value)} (h : W.ownsRow base 24 5 (.slice (some ⟨g, 0, none⟩) n cap) n (rowCells ls)) (h0 : ls ≠ []) (hn : n = ls.length) (hF : F g) (hk : ∀ p ∈ ls, Kids W F p.2 p.1.kids) : Kids W F (.slice (some ⟨g, 0, none⟩) n cap) (ls.map (·.1)) := by
 subst hn
 have hcap : ls.length ≤ cap := by
  rcases h.2 with ⟨h1, _⟩ | ⟨g', cap', cur, h1, _, _, h4, _⟩
  ·cases h1
  ·simp only [Value.slice.injEq] at h1
   omega
 refine kids_lit ls hF h0 hcap ?_ hk
 intro j v hj
 have h3 := h.cells (g := g) rfl _ _ hj
 have e : (⟨g, 0, none⟩ : Addr).add j = ⟨g, j, none⟩ := by unfold Addr.add; split <;> simp_all
 rw [e] at h3
 exact h3
theorem ob_slice (g n c : Nat) : (Value.slice (some ⟨g, 0, none⟩) n c).ownBlock = some g := rfl

theorem dlet (N e d : Nat) (hN : N ≤ 90000) (z : Sy.Env) (E : List Lx.Tk → Sy.R Sy.Tr) (hE : EOK N e d z E) : ROK1 102 N e d z (Sy.letB z N E) := by
 obtain ⟨i0, hi, hiz0, hiz1, hiz2⟩ := info_parts Tryz.info36
 intro w b t0 tl h hn
 have H := hid h
 have hbR : b < w.heap.size := h.lt
 clear h
 go_enter Tryz.func102, Tryz.ntmps102
 go_wp2_with fail
 obtain ⟨W0, hW0, HI⟩ := jn1 H.out 24
 rw [hW0]
 clear hW0
 have hz0 := HI.out.size
 have hlt0 : tl.length < N := by simp only [List.length_cons] at hn; omega
 refine (dbindLet N e d hN z E hE _ b t0 tl (by repeat (with_reducible (first | exact HI.out.rd | apply Dr.drew))) hn).mono ?_
 intro en w1 HD
 rcases hx1 : Sy.bindB z N E 0 tl with f1 | ⟨q1, ts1⟩
 ·obtain ⟨rfl, HK1⟩ := HD.no hx1
  have HKE := hid ((show Kp b w _ by repeat (with_reducible (first | exact HI.out.kp | apply Kp.drew))).trans HK1.out)
  go_wp2_with fail
  exact ⟨rfl, DRes.err (by simp [Sy.letB, Sy.takeB, Sy.lookB, Sy.iteB_takes, Sy.bnd, hx1]) HKE.out⟩
 have H1 := hid hx1
 have hn1 : ts1.length < N := Nat.lt_of_le_of_lt (le_bind (fun ts h => hE.le _ ts h) _ _ (Nat.le_refl _) _ _ hx1) hlt0
 obtain ⟨g, lo, kv, rfl, hlo, HROW, HR1, HK1⟩ := HD.yes hx1
 clear hx1 HD
 obtain ⟨W1, hW1, HB1, HRd1, HKp1, hs1, hu1⟩ := jblk_new (.int .i64 9) (.int .i64 t0.pos) (.string ⟨q1.2.1.toArray⟩) (.int .i64 q1.1) (.slice (some ⟨g, 0, none⟩) 1 1) HR1.out HK1.out 24
 have HRS1 := hid (HI.out.one.kp HKp1.out (by omega))
 have HKA1 := hid (HI.out.kp.trans HKp1.out)
 have hgl : g < w1.heap.size := (HROW.out.own.lt g rfl).2
 have hgo : lo ≤ g := (HROW.out.own.lt g rfl).1
 have HOW1 : Hid (W1.ownsRow lo 24 5 (.slice (some ⟨g, 0, none⟩) 1 1) 1 (rowCells [(q1.2.2, kv)])) := by rw [Hid, ← hW1]; exact (HROW.out.alloc _).own
 have HKQ1 : Hid (Kids W1 (fun q => lo ≤ q ∧ q ≠ w1.heap.size ∧ q ≠ g) kv q1.2.2.kids) := by
  rw [Hid, ← hW1]
  refine ((HROW.out.kids _ (List.mem_cons_self ..)).weak (fun q hq hlt => ⟨hq.1, by omega, ?_⟩)).pastF ((Below.refl _ _).alloc (Nat.le_refl _) _)
  intro e0
  exact hq.2 (by rw [e0]; rfl)
 have HWW := hid hW1
 clear hW1
 go_wp2_with fail
 rw [HWW.out]
 refine (dneed _ b z ts1 e d Sy.w_in (by decide) (by repeat (with_reducible (first | exact HRd1.out | apply Dr.drew)))).mono ?_
 intro en w2 HD
 rcases hx2 : Sy.needB z Sy.w_in ts1 with f2 | ⟨u2, ts2⟩
 ·obtain ⟨rfl, HK2⟩ := HD.no hx2
  have HKE := hid ((show Kp b w _ by repeat (with_reducible (first | exact HKA1.out | apply Kp.drew))).trans HK2.out)
  go_wp2_with fail
  exact ⟨rfl, DRes.err (by simp [Sy.letB, Sy.takeB, Sy.lookB, Sy.iteB_takes, Sy.bnd, H1.out, hx2]) HKE.out⟩
 have H2 := hid hx2
 have hn2 : ts2.length < N := Nat.lt_of_le_of_lt (le_need (Nat.le_refl _) _ _ hx2) hn1
 obtain ⟨rfl, HR2, HK2⟩ := HD.yes hx2
 clear hx2 HD
 have ht2 := HK2.out.size
 have HBn_2 := hid ((show Blk _ w1.heap.size [_, _, _, _, _] by repeat (with_reducible (first | exact HB1.out | apply Blk.drew))).kp HK2.out (by omega))
 have HRS2 := hid ((show Blk _ w.heap.size [_, _, _, _, _] by repeat (with_reducible (first | exact HRS1.out | apply Blk.drew))).kp HK2.out (by omega))
 have HKA2 := hid ((show Kp b w _ by repeat (with_reducible (first | exact HKA1.out | apply Kp.drew))).trans HK2.out)
 have HOW2 := hid (own_kp HOW1.out HK2.out (by omega))
 have HKQ2 := hid (HKQ1.out.kpF HK2.out (fun q hq => by have := hq.1; omega))
 obtain ⟨⟨p0, p1, p2, p3, p4⟩, p5, p6, p7, p8, p9⟩ := blk5 HBn_2.out
 go_wp2_with fail
 rcases hx3 : E ts2 with f3 | ⟨y3, ts3⟩
 ·skip
  refine wp_region_held_drew (S := (fun w' => w'.cell? ⟨w1.heap.size, 4, none⟩ = some (.slice (some ⟨g, 0, none⟩) 1 1))) (by kernel_rfl) (by first | trivial | (dsimp only; go_keep)) (fun hHeld => ?_)
  refine wpAnyH_take (i := 0) (v := ?vv0_1) rfl (by kernel_rfl) (by kernel_rfl) (by kernel_rfl) (fun _ _ _ h => h) (Or.inl ⟨by rfl, ?yy0_1⟩) (by assumption) ?rr0_1
  case yy0_1 => (intro w hSw; (try dsimp only at hSw); go_simp; (try with_reducible rfl))
  try simp only [Act.put, List.setIfInBounds_toArray, List.set_cons_zero, List.set_cons_succ]
  refine wpAnyH_take (i := 1) (v := ?vv1_1) rfl (by kernel_rfl) (by kernel_rfl) (by kernel_rfl) (fun _ _ _ h => h) (Or.inl ⟨by rfl, ?yy1_1⟩) (by assumption) ?rr1_1
  case yy1_1 => (intro w hSw; (try dsimp only at hSw); go_simp; (try with_reducible rfl))
  try simp only [Act.put, List.setIfInBounds_toArray, List.set_cons_zero, List.set_cons_succ]
  refine wpAnyH_take (i := 2) (v := ?vv2_1) rfl (by kernel_rfl) (by kernel_rfl) (by kernel_rfl) (fun _ _ _ h => h) (Or.inl ⟨by rfl, ?yy2_1⟩) (by assumption) ?rr2_1
  case yy2_1 => (intro w hSw; (try dsimp only at hSw); go_simp; (try with_reducible rfl))
  try simp only [Act.put, List.setIfInBounds_toArray, List.set_cons_zero, List.set_cons_succ]
  refine wpAnyH_ready (rs := [3]) (by kernel_rfl) (by simp) (AllReadyH.cons rfl (fun K hK => ?_) AllReadyH.nil)
  go_simp
  refine (hE.calls _ b ts2 (by repeat (with_reducible (first | exact HR2.out | apply Dr.drew))) hn2).mono ?_
  intro en w3 HD
  obtain ⟨rfl, HK3⟩ := HD.no hx3
  have HKE := hid ((show Kp b w _ by repeat (with_reducible (first | exact HKA2.out | apply Kp.drew))).trans HK3.out)
  exact ⟨rfl, DRes.err (by simp [Sy.letB, Sy.takeB, Sy.lookB, Sy.iteB_takes, Sy.bnd, H1.out, H2.out, hx3]) HKE.out⟩
 have H3 := hid hx3
 clear hx3
 go_region_law (first
  | (refine step_append_lies _ (by rfl) _ _ 22 (by rfl) lo 24 i0 (.agg #[.int .i64 0, .int .i64 0, .string ⟨#[]⟩, .int .i64 0, .slice none 0 0]) 5 64 Tryz.underlying22 hi hiz0 hiz1 hiz2 rfl (by decide) (.slice (some ⟨g, 0, none⟩) 1 1) 1 (rowCells [(q1.2.2, kv)]) (by rfl) (own_alloc HOW3.out _) ⟨w3.heap.size, 0, none⟩ 1 1 (nodeCells y3 (.slice a3 l3 c3)) (by rfl) (by rfl) HNW.out (node_one _ _ _ _) (by decide) (by decide) (by decide) hbs _ rfl ?_; intro ga capa w9 hown hgrow hat hlt9; have HB9 := hid (Blk.grown (HBn_3.out.alloc _) hgrow (by rw [ob_slice]; intro e0; have := Option.some.inj e0; omega)); obtain ⟨⟨t9_0, t9_1, t9_2, t9_3, t9_4⟩, t9_5, t9_6, t9_7, t9_8, t9_9⟩ := blk5 HB9.out)
  | (go_simp; go_at_call 34; refine (hE.calls _ b ts2 (by repeat (with_reducible (first | exact HR2.out | apply Dr.drew))) hn2).mono ?_; intro en w3 HD; obtain ⟨a3, l3, c3, rfl, HKd3, HR3, HK3⟩ := HD.yes H3.out; have ht3 := HK3.out.size; (try simp at ht3); have HBn_3 := hid ((show Blk _ w1.heap.size [_, _, _, _, _] by repeat (with_reducible (first | exact HBn_2.out | apply Blk.drew))).kp HK3.out (by omega)); have HRS3 := hid ((show Blk _ w.heap.size [_, _, _, _, _] by repeat (with_reducible (first | exact HRS2.out | apply Blk.drew))).kp HK3.out (by omega)); have HKA3 := hid ((show Kp b w _ by repeat (with_reducible (first | exact HKA2.out | apply Kp.drew))).trans HK3.out); obtain ⟨⟨u1_0, u1_1, u1_2, u1_3, u1_4⟩, u1_5, u1_6, u1_7, u1_8, u1_9⟩ := blk5 HRS3.out; have hlw3 : w.heap.size < w3.heap.size := Blk.lt HRS3.out; have HY3 : Hid (Kids w3 (fun g => w2.heap.size ≤ g) (.slice a3 l3 c3) y3.kids) := HKd3.out.weak (fun g hg _ => by (try simp at hg); omega); obtain ⟨⟨s0, s1, s2, s3, s4⟩, s5, s6, s7, s8, s9⟩ := blk5 HBn_3.out; have hlA : w1.heap.size < w3.heap.size := Blk.lt HBn_3.out; have HOW3 := hid (own_kp (own_drew HOW2.out) HK3.out (by omega)); have HKQ3 := hid (HKQ2.out.drew.kpF HK3.out (fun q hq => by have := hq.1; omega)); have HNW := hid (node_news (w := w3) (T := y3) (a := a3) (l := l3) (c := c3) (ty := 24) (H := w3.heap.size) rfl); have hbs : lo ≤ (w3.alloc (.cells #[.int .i64 y3.kind, .int .i64 y3.pos, .string ⟨y3.name.toArray⟩, .int .i64 y3.num, .slice a3 l3 c3] 24)).heap.size := (by simp; omega); dsimp only))
 all_goals
  have HRS9 := hid (Blk.grown (HRS3.out.alloc _) hgrow (by rw [ob_slice]; intro e0; have := Option.some.inj e0; omega))
  have HR9 := hid (Dr.grown (HR3.out.alloc _) hgrow (by intro q hq; rw [ob_slice]; intro e0; have := Option.some.inj e0; omega))
  have HK9 := hid (Kp.grown (HKA3.out.alloc _) hgrow (by intro q hq; rw [ob_slice]; intro e0; have := Option.some.inj e0; omega))
  have hgaA : ga ≠ w1.heap.size := by rcases hat with h0 | h0; (rw [ob_slice] at h0; have := Option.some.inj h0; omega); (simp at h0; omega)
  have hgalo : lo ≤ ga := (hown.lt ga rfl).1
  have HKF := hid (kids_own (F := fun q => lo ≤ q ∧ q ≠ w1.heap.size) (ls := [(q1.2.2, kv), (y3, .slice a3 l3 c3)]) hown (by simp) rfl ⟨hgalo, hgaA⟩ (by intro p hp; simp only [List.mem_cons, List.not_mem_nil, or_false] at hp; rcases hp with rfl | rfl; exact ((HKQ3.out.pastF ((Below.refl _ _).alloc (Nat.le_refl _) _)).grown hgrow (fun q hq => by rw [ob_slice]; intro e0; exact hq.2.2 (Option.some.inj e0))).weak (fun q hq _ => ⟨hq.1, hq.2.1⟩); exact (((HY3.out.weak (F' := fun q => lo ≤ q ∧ q ≠ w1.heap.size ∧ q ≠ g) (fun q hq hlt => ⟨by omega, by omega, by omega⟩)).pastF ((Below.refl _ _).alloc (Nat.le_refl _) _)).grown hgrow (fun q hq => by rw [ob_slice]; intro e0; exact hq.2.2 (Option.some.inj e0))).weak (fun q hq _ => ⟨hq.1, hq.2.1⟩)))
  obtain ⟨⟨z0, z1, z2, z3, z4⟩, z5, z6, z7, z8, z9⟩ := blk5 HRS9.out
  have hneA : ¬ w1.heap.size = w.heap.size := by omega
  have hneB : ¬ w.heap.size = w1.heap.size := by omega
  go_wp2_with fail
  refine bodyPost_ret (v := .agg #[.int .i64 9, .int .i64 t0.pos, .string ⟨q1.2.1.toArray⟩, .int .i64 q1.1, .slice (some ⟨ga, 0, none⟩) 2 capa]) (by simp [results, Tryz.results102, go_sem, z0, z1, z2, z3, z4, hneA, hneB]) rfl ?_
  refine dres_fin (lo := W0.heap.size) (W := w9.setCell ⟨w1.heap.size, 4, none⟩ (.slice (some ⟨ga, 0, none⟩) 2 capa)) (.mk 9 t0.pos q1.2.1 q1.1 [q1.2.2, y3]) ts3 (HKF.out.carry (fun q hq _ => Below.heap_setCell _ _ _ _ hq.2) (fun q hq _ => by have := hq.1; omega)) (HR9.out.other (by omega) _ _) (HK9.out.other (by omega) _ _) (by simp [Sy.letB, Sy.takeB, Sy.lookB, Sy.iteB_takes, Sy.bnd, H1.out, H2.out, H3.out]) (by omega) (by omega) (by omega) _ _ _ _ rfl rfl rfl rfl _ _ _ _ _

open Go.RowKit

theorem dclause (N e d : Nat) (z : Sy.Env) (E : List Lx.Tk → Sy.R Sy.Tr) (hE : EOK N e d z E) : ROK 133 N e d z (Sy.clauseB z E) := by
 obtain ⟨i0, hi, hiz0, hiz1, hiz2⟩ := info_parts Tryz.info36
 intro w b ts h hn
 have H := hid h
 have hbR : b < w.heap.size := h.lt
 clear h
 go_enter Tryz.func133, Tryz.ntmps133
 go_wp2_with fail
 obtain ⟨W0, hW0, HI⟩ := jn1 H.out 24
 rw [hW0]
 clear hW0
 have hz0 := HI.out.size
 refine (dname _ b z ts e d (by repeat (with_reducible (first | exact HI.out.rd | apply Dr.drew)))).mono ?_
 intro en w1 HD
 rcases hx1 : Sy.kindB z 2 ts with f1 | ⟨t1, ts1⟩
 ·obtain ⟨rfl, HK1⟩ := HD.no hx1
  have HKE := hid ((show Kp b w _ by repeat (with_reducible (first | exact HI.out.kp | apply Kp.drew))).trans HK1.out)
  go_wp2_with fail
  exact ⟨rfl, DRes.err (by simp [Sy.clauseB, Sy.iteB_takes, Sy.bnd, hx1]) HKE.out⟩
 have H1 := hid hx1
 have hn1 : ts1.length < N := Nat.lt_of_le_of_lt (le_kind (Nat.le_refl _) _ _ hx1) hn
 obtain ⟨rfl, HR1, HK1⟩ := HD.yes hx1
 dsimp only [tkV]
 clear hx1 HD
 obtain ⟨W1, hW1, HB1, HRd1, HKp1, hs1, ht1⟩ := jtok_new t1 HR1.out HK1.out 41
 have HRS1 := hid ((show Blk _ w.heap.size [_, _, _, _, _] by repeat (with_reducible (first | exact HI.out.one | apply Blk.drew))).kp HKp1.out (by omega))
 have HKA1 := hid ((show Kp b w _ by repeat (with_reducible (first | exact HI.out.kp | apply Kp.drew))).trans HKp1.out)
 have HWW := hid hW1
 clear hW1
 go_wp2_with fail
 rw [HWW.out]
 refine (dnamed _ b z ts1 e d (by repeat (with_reducible (first | exact HRd1.out | apply Dr.drew)))).mono ?_
 intro en w2 HD
 rcases hx2 : Sy.namedB z ts1 with f2 | ⟨y2, ts2⟩
 ·obtain ⟨rfl, HK2⟩ := HD.no hx2
  have HKE := hid ((show Kp b w _ by repeat (with_reducible (first | exact HKA1.out | apply Kp.drew))).trans HK2.out)
  go_wp2_with fail
  exact ⟨rfl, DRes.err (by simp [Sy.clauseB, Sy.iteB_takes, Sy.bnd, H1.out, hx2]) HKE.out⟩
 have H2 := hid hx2
 have hn2 : ts2.length < N := Nat.lt_of_le_of_lt (le_named (Nat.le_refl _) _ _ hx2) hn1
 obtain ⟨a2, l2, c2, rfl, HKd2, HR2, HK2⟩ := HD.yes hx2
 clear hx2 HD
 have ht2 := HK2.out.size
 have HBt_2 := hid ((show Blk _ w1.heap.size [_, _, _, _] by repeat (with_reducible (first | exact HB1.out | apply Blk.drew))).kp HK2.out (by omega))
 have HRS2 := hid ((show Blk _ w.heap.size [_, _, _, _, _] by repeat (with_reducible (first | exact HRS1.out | apply Blk.drew))).kp HK2.out (by omega))
 have HKA2 := hid ((show Kp b w _ by repeat (with_reducible (first | exact HKA1.out | apply Kp.drew))).trans HK2.out)
 go_wp2_with fail
 refine (dnamed _ b z ts2 e d (by repeat (with_reducible (first | exact HR2.out | apply Dr.drew)))).mono ?_
 intro en w3 HD
 rcases hx3 : Sy.namedB z ts2 with f3 | ⟨y3, ts3⟩
 ·obtain ⟨rfl, HK3⟩ := HD.no hx3
  have HKE := hid ((show Kp b w _ by repeat (with_reducible (first | exact HKA2.out | apply Kp.drew))).trans HK3.out)
  go_wp2_with fail
  exact ⟨rfl, DRes.err (by simp [Sy.clauseB, Sy.iteB_takes, Sy.bnd, H1.out, H2.out, hx3]) HKE.out⟩
 have H3 := hid hx3
 have hn3 : ts3.length < N := Nat.lt_of_le_of_lt (le_named (Nat.le_refl _) _ _ hx3) hn2
 obtain ⟨a3, l3, c3, rfl, HKd3, HR3, HK3⟩ := HD.yes hx3
 clear hx3 HD
 have ht3 := HK3.out.size
 have HBt_3 := hid ((show Blk _ w1.heap.size [_, _, _, _] by repeat (with_reducible (first | exact HBt_2.out | apply Blk.drew))).kp HK3.out (by omega))
 have HRS3 := hid ((show Blk _ w.heap.size [_, _, _, _, _] by repeat (with_reducible (first | exact HRS2.out | apply Blk.drew))).kp HK3.out (by omega))
 have HKA3 := hid ((show Kp b w _ by repeat (with_reducible (first | exact HKA2.out | apply Kp.drew))).trans HK3.out)
 have HKD2 := hid ((HKd2.out.kp HK3.out (by omega) (Nat.le_refl _)).weak (fun g hg _ => Nat.le_trans (show W1.heap.size ≤ W1.heap.size from Nat.le_refl _) hg))
 have HKD3 := hid (HKd3.out.weak (fun g hg _ => Nat.le_trans (show W1.heap.size ≤ w2.heap.size by omega) hg))
 have HROW := hid (rowS_lit (lo := W1.heap.size) [(y2, .slice a2 l2 c2), (y3, .slice a3 l3 c3)] (by simp) w3.heap.size rfl #[.int .i64 y2.kind, .int .i64 y2.pos, .string ⟨y2.name.toArray⟩, .int .i64 y2.num, .slice a2 l2 c2, .int .i64 y3.kind, .int .i64 y3.pos, .string ⟨y3.name.toArray⟩, .int .i64 y3.num, .slice a3 l3 c3] rfl 2 rfl (by decide) (by omega) (by intro p hp; simp only [List.mem_cons, List.not_mem_nil, or_false] at hp; rcases hp with rfl | rfl <;> first | exact HKD2.out | exact HKD3.out))
 obtain ⟨W3, hW3⟩ : ∃ W3, w3.alloc (.cells #[.int .i64 y2.kind, .int .i64 y2.pos, .string ⟨y2.name.toArray⟩, .int .i64 y2.num, .slice a2 l2 c2, .int .i64 y3.kind, .int .i64 y3.pos, .string ⟨y3.name.toArray⟩, .int .i64 y3.num, .slice a3 l3 c3] 24) = W3 := ⟨_, rfl⟩
 have HBe3 : Hid (Below w3.heap.size w3 W3) := by rw [Hid, ← hW3]; exact (Below.refl _ _).alloc (Nat.le_refl _) _
 have hs3 : W3.heap.size = w3.heap.size + 1 := by rw [← hW3]; simp
 rw [hW3] at HROW
 have HBt_4 := hid ((show Blk _ w1.heap.size [_, _, _, _] by repeat (with_reducible (first | exact HBt_3.out | apply Blk.drew))).past HBe3.out)
 have HRS4 := hid ((show Blk _ w.heap.size [_, _, _, _, _] by repeat (with_reducible (first | exact HRS3.out | apply Blk.drew))).past HBe3.out)
 have HKA4 := hid ((show Kp b w _ by repeat (with_reducible (first | exact HKA3.out | apply Kp.drew))).below HBe3.out)
 have HR4 := hid (HR3.out.below HBe3.out)
 have HW3 := hid hW3
 clear hW3
 go_wp2_with fail
 rw [HW3.out]
 refine (dneed _ b z ts3 e d Sy.s_to (by decide) (by repeat (with_reducible (first | exact HR4.out | apply Dr.drew)))).mono ?_
 intro en w5 HD
 rcases hx5 : Sy.needB z Sy.s_to ts3 with f5 | ⟨u5, ts5⟩
 ·obtain ⟨rfl, HK5⟩ := HD.no hx5
  have HKE := hid ((show Kp b w _ by repeat (with_reducible (first | exact HKA4.out | apply Kp.drew))).trans HK5.out)
  go_wp2_with fail
  exact ⟨rfl, DRes.err (by simp [Sy.clauseB, Sy.iteB_takes, Sy.bnd, H1.out, H2.out, H3.out, hx5]) HKE.out⟩
 have H5 := hid hx5
 have hn5 : ts5.length < N := Nat.lt_of_le_of_lt (le_need (Nat.le_refl _) _ _ hx5) hn3
 obtain ⟨rfl, HR5, HK5⟩ := HD.yes hx5
 clear hx5 HD
 have ht5 := HK5.out.size
 have HBt_5 := hid ((show Blk _ w1.heap.size [_, _, _, _] by repeat (with_reducible (first | exact HBt_4.out | apply Blk.drew))).kp HK5.out (by omega))
 have HRS5 := hid ((show Blk _ w.heap.size [_, _, _, _, _] by repeat (with_reducible (first | exact HRS4.out | apply Blk.drew))).kp HK5.out (by omega))
 have HKA5 := hid ((show Kp b w _ by repeat (with_reducible (first | exact HKA4.out | apply Kp.drew))).trans HK5.out)
 have HROW2 := hid (HROW.out.kp HK5.out (by omega))
 obtain ⟨p0, p1, p2, p3, p4, p5, p6, p7⟩ := blk4 HBt_5.out
 obtain ⟨⟨u1_0, u1_1, u1_2, u1_3, u1_4⟩, u1_5, u1_6, u1_7, u1_8, u1_9⟩ := blk5 HRS5.out
 have hneA : ¬ w1.heap.size = w.heap.size := by omega
 have hneB : ¬ w.heap.size = w1.heap.size := by omega
 go_wp2_with fail
 rcases hx6 : E ts5 with f6 | ⟨y6, ts6⟩
 ·skip
  refine wp_region_held_drew (S := (fun w' => w'.cell? ⟨w1.heap.size, 1, none⟩ = some (.int .i64 t1.pos) ∧ w'.cell? ⟨w1.heap.size, 2, none⟩ = some (.string ⟨t1.text.toArray⟩))) (by kernel_rfl) (by first | trivial | (dsimp only; go_keep)) (fun hHeld => ?_)
  refine wpAnyH_take (i := 0) (v := ?vv0_1) rfl (by kernel_rfl) (by kernel_rfl) (by kernel_rfl) (fun _ _ _ h => h) (Or.inl ⟨by rfl, ?yy0_1⟩) (by assumption) ?rr0_1
  case yy0_1 => (intro w hSw; (try dsimp only at hSw); go_simp; (try with_reducible rfl))
  try simp only [Act.put, List.setIfInBounds_toArray, List.set_cons_zero, List.set_cons_succ]
  refine wpAnyH_take (i := 1) (v := ?vv1_1) rfl (by kernel_rfl) (by kernel_rfl) (by kernel_rfl) (fun _ _ _ h => h) (Or.inl ⟨by rfl, ?yy1_1⟩) (by assumption) ?rr1_1
  case yy1_1 => (intro w hSw; (try dsimp only at hSw); go_simp; (try with_reducible rfl))
  try simp only [Act.put, List.setIfInBounds_toArray, List.set_cons_zero, List.set_cons_succ]
  refine wpAnyH_take (i := 2) (v := ?vv2_1) rfl (by kernel_rfl) (by kernel_rfl) (by kernel_rfl) (fun _ _ _ h => h) (Or.inl ⟨by rfl, ?yy2_1⟩) (by assumption) ?rr2_1
  case yy2_1 => (intro w hSw; (try dsimp only at hSw); go_simp; (try with_reducible rfl))
  try simp only [Act.put, List.setIfInBounds_toArray, List.set_cons_zero, List.set_cons_succ]
  refine wpAnyH_take (i := 3) (v := ?vv3_1) rfl (by kernel_rfl) (by kernel_rfl) (by kernel_rfl) (fun _ _ _ h => h) (Or.inl ⟨by rfl, ?yy3_1⟩) (by assumption) ?rr3_1
  case yy3_1 => (intro w hSw; (try dsimp only at hSw); go_simp; (try with_reducible rfl))
  try simp only [Act.put, List.setIfInBounds_toArray, List.set_cons_zero, List.set_cons_succ]
  refine wpAnyH_take (i := 4) (v := ?vv4_1) rfl (by kernel_rfl) (by kernel_rfl) (by kernel_rfl) (fun _ _ _ h => h) (Or.inl ⟨by rfl, ?yy4_1⟩) (by assumption) ?rr4_1
  case yy4_1 => (intro w hSw; (try dsimp only at hSw); go_simp; (try with_reducible rfl))
  try simp only [Act.put, List.setIfInBounds_toArray, List.set_cons_zero, List.set_cons_succ]
  refine wpAnyH_take (i := 5) (v := ?vv5_1) rfl (by kernel_rfl) (by kernel_rfl) (by kernel_rfl) (fun _ _ _ h => h) (Or.inl ⟨by rfl, ?yy5_1⟩) (by assumption) ?rr5_1
  case yy5_1 => (intro w hSw; (try dsimp only at hSw); go_simp; (try with_reducible rfl))
  try simp only [Act.put, List.setIfInBounds_toArray, List.set_cons_zero, List.set_cons_succ]
  refine wpAnyH_ready (rs := [6]) (by kernel_rfl) (by simp) (AllReadyH.cons rfl (fun K hK => ?_) AllReadyH.nil)
  go_simp
  refine (hE.calls _ b ts5 (by repeat (with_reducible (first | exact HR5.out | apply Dr.drew))) hn5).mono ?_
  intro en w6 HD
  obtain ⟨rfl, HK6⟩ := HD.no hx6
  have HKE := hid ((show Kp b w _ by repeat (with_reducible (first | exact HKA5.out | apply Kp.drew))).trans HK6.out)
  exact ⟨rfl, DRes.err (by simp [Sy.clauseB, Sy.iteB_takes, Sy.bnd, H1.out, H2.out, H3.out, H5.out, hx6]) HKE.out⟩
 have H6 := hid hx6
 clear hx6
 go_region_held3 (fun w' => w'.cell? ⟨w1.heap.size, 1, none⟩ = some (.int .i64 t1.pos) ∧ w'.cell? ⟨w1.heap.size, 2, none⟩ = some (.string ⟨t1.text.toArray⟩)) (go_keep) (first
  | (refine step_append_lies _ (by rfl) _ _ 22 (by rfl) W1.heap.size 24 i0 (.agg #[.int .i64 0, .int .i64 0, .string ⟨#[]⟩, .int .i64 0, .slice none 0 0]) 5 64 Tryz.underlying22 hi hiz0 hiz1 hiz2 rfl (by decide) (.slice (some ⟨w3.heap.size, 0, none⟩) 2 2) 2 (rowCells [(y2, .slice a2 l2 c2), (y3, .slice a3 l3 c3)]) (by rfl) (own_alloc HROW3.out.own _) ⟨w6.heap.size, 0, none⟩ 1 1 (nodeCells y6 (.slice a6 l6 c6)) (by rfl) (by rfl) HNW.out (node_one _ _ _ _) (by decide) (by decide) (by decide) hbs _ rfl ?_; intro ga capa w9 hown hgrow hat hlt9; have HB9 := hid (Blk.grown (HBt_6.out.alloc _) hgrow (by rw [ob_slice]; intro e0; have := Option.some.inj e0; omega)); obtain ⟨t9_0, t9_1, t9_2, t9_3, t9_4, t9_5, t9_6, t9_7⟩ := blk4 HB9.out; have HRS9 := hid (Blk.grown (HRS6.out.alloc _) hgrow (by rw [ob_slice]; intro e0; have := Option.some.inj e0; omega)); obtain ⟨⟨z0, z1, z2, z3, z4⟩, z5, z6, z7, z8, z9⟩ := blk5 HRS9.out)
  | (go_at_call 34; refine (hE.calls _ b ts5 (by repeat (with_reducible (first | exact HR5.out | apply Dr.drew))) hn5).mono ?_; intro en w6 HD; obtain ⟨a6, l6, c6, rfl, HKd6, HR6, HK6⟩ := HD.yes H6.out; have ht6 := HK6.out.size; (try simp at ht6); have HBt_6 := hid ((show Blk _ w1.heap.size [_, _, _, _] by repeat (with_reducible (first | exact HBt_5.out | apply Blk.drew))).kp HK6.out (by omega)); have HRS6 := hid ((show Blk _ w.heap.size [_, _, _, _, _] by repeat (with_reducible (first | exact HRS5.out | apply Blk.drew))).kp HK6.out (by omega)); have HKA6 := hid ((show Kp b w _ by repeat (with_reducible (first | exact HKA5.out | apply Kp.drew))).trans HK6.out); obtain ⟨⟨u2_0, u2_1, u2_2, u2_3, u2_4⟩, u2_5, u2_6, u2_7, u2_8, u2_9⟩ := blk5 HRS6.out; have hlw6 : w.heap.size < w6.heap.size := Blk.lt HRS6.out; have HY6 : Hid (Kids w6 (fun g => w5.heap.size ≤ g) (.slice a6 l6 c6) y6.kids) := HKd6.out.weak (fun g hg _ => by (try simp at hg); omega); obtain ⟨s0, s1, s2, s3, s4, s5, s6, s7⟩ := blk4 HBt_6.out; have hlA : w1.heap.size < w6.heap.size := Blk.lt HBt_6.out; have HROW3 := hid ((HROW2.out.past (Below.refl _ _).drew).kp HK6.out (by omega)); have HNW := hid (node_news (w := w6) (T := y6) (a := a6) (l := l6) (c := c6) (ty := 24) (H := w6.heap.size) rfl); have hbs : W1.heap.size ≤ (w6.alloc (.cells #[.int .i64 y6.kind, .int .i64 y6.pos, .string ⟨y6.name.toArray⟩, .int .i64 y6.num, .slice a6 l6 c6] 24)).heap.size := (by simp; omega)))
 all_goals
  have HR9 := hid (Dr.grown (HR6.out.alloc _) hgrow (by intro q hq; rw [ob_slice]; intro e0; have := Option.some.inj e0; omega))
  have HK9 := hid (Kp.grown (HKA6.out.alloc _) hgrow (by intro q hq; rw [ob_slice]; intro e0; have := Option.some.inj e0; omega))
  have HRX := hid ((HROW3.out.alloc _).app (T := y6) (kv := .slice a6 l6 c6) hown hgrow hat ((HY6.out.weak (F' := Fo W1.heap.size (.slice (some ⟨w3.heap.size, 0, none⟩) 2 2)) (fun q hq hlt => ⟨by omega, by rw [ob_slice]; intro e0; have := Option.some.inj e0; omega⟩)).pastF ((Below.refl _ _).alloc (Nat.le_refl _) _)))
  have HKF := hid (HRX.out.kidsOf (by simp) (by simp))
  go_wp2_with fail
  refine bodyPost_ret (v := .agg #[.int .i64 22, .int .i64 t1.pos, .string ⟨t1.text.toArray⟩, .int .i64 0, .slice (some ⟨ga, 0, none⟩) 3 capa]) (by simp [results, Tryz.results133, go_sem, z0, z1, z2, z3, z4]) rfl ?_
  exact dres_fin (lo := W1.heap.size) (Sy.nm 22 t1.pos t1.text [y2, y3, y6]) ts6 HKF.out HR9.out HK9.out (by simp [Sy.clauseB, Sy.iteB_takes, Sy.bnd, H1.out, H2.out, H3.out, H5.out, H6.out]) (by omega) (by omega) (by omega) _ _ _ _ rfl rfl rfl rfl _ _ _ _ _
end Go.Proofs.YtoajnlhegallpaaGreatDoor
