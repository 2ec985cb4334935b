import Derived.Test.YtejciampbnfbhaaMTyM
import Derived.Test.YtejciampbnfbhaaHw
import Derived.Deep.RegionHeld3
set_option linter.unusedVariables false
set_option linter.unusedSimpArgs false
set_option maxRecDepth 100000
set_option maxHeartbeats 8000000
namespace Go.Proofs.Ytejciampbnfbhaa
open Go.RowKit
abbrev nmB (T R : Nat) : Obj := .cells #[.map (some T), .map (some R)] 79
abbrev ty0 (k : Int) : Obj := tyB k 0 0 (.slice none 0 0) (.slice none 0 0)
abbrev W3 (w : World) (T R : Nat) (kd : Int) : World := ((w.alloc (nmB T R)).alloc (ty0 0)).alloc (ty0 kd)
theorem W3.ch (w : World) (T R : Nat) (kd : Int) : Ch (fun _ => False) w (W3 w T R kd) := ((al_ch w _).al _).al _
theorem W3.size (w : World) (T R : Nat) (kd : Int) : (W3 w T R kd).heap.size = w.heap.size + 3 := by simp [W3]
theorem W3.b0 (w : World) (T R : Nat) (kd : Int) : (W3 w T R kd).heap[w.heap.size]? = some (nmB T R) := blk_alloc (blk_alloc (World.alloc_heap_new w _))
theorem W3.b1 (w : World) (T R : Nat) (kd : Int) : (W3 w T R kd).heap[w.heap.size + 1]? = some (ty0 0) := by
 have h := World.alloc_heap_new (w.alloc (nmB T R)) (ty0 0)
 refine blk_alloc ?_
 simpa using h
theorem W3.b2 (w : World) (T R : Nat) (kd : Int) : (W3 w T R kd).heap[w.heap.size + 1 + 1]? = some (ty0 kd) := by
 have h := World.alloc_heap_new ((w.alloc (nmB T R)).alloc (ty0 0)) (ty0 kd)
 simpa using h
structure Nm2 (w : World) (b : Nat) (G : Gg) (T R : Nat) (N : Dg.NM) : Prop where
 oT : G.out b T
 oR : G.out b R
 ne : T ≠ R
 mT : MI w T N.1
 mR : MI w R N.2
abbrev isTR (T R : Nat) : Nat → Prop := fun j => j = T ∨ j = R
def ToldOK (b T R f k : Nat) : Prop := ∀ {w : World} {G : Gg} {d : Dg.D} {n : Int} {N N' : Dg.NM} {t : Ty.P}, GD w b G d → Nm2 w b G T R N → Dg.told f k d n N = some (t, N') →
 Calls Try.prog 32 #[.pointer (some ⟨b, 0, none⟩), .int .i64 n, .agg #[.map (some T), .map (some R)]] w fun e w' => ∃ os az, e = .returned (tyV t.kind t.num t.row os az) ∧ Rb w.heap.size w' t os az ∧ MI w' T N'.1 ∧ MI w' R N'.2 ∧ Ch (isTR T R) w w'
theorem Nm2.keep {w w' : World} {b : Nat} {G : Gg} {T R : Nat} {N : Dg.NM} (h : Nm2 w b G T R N) {O : Nat → Prop} (hc : Ch O w w') (hT : ¬ O T) (hR : ¬ O R) : Nm2 w' b G T R N :=
 ⟨h.oT, h.oR, h.ne, h.mT.keep (hc.same _ h.mT.lt hT), h.mR.keep (hc.same _ h.mR.lt hR)⟩
theorem nul0 : Nul (.slice none 0 0) := ⟨none, 0, rfl⟩
theorem Told_leaf {b T R f : Nat} {t : Ty.P} (ht : t.kind ≤ 3) (ht0 : t.kind ≠ 0) {w : World} {G : Gg} {d : Dg.D} {n : Int} {N : Dg.NM} (h : GD w b G d) (hN : Nm2 w b G T R N) {ni : Nat} (fn : Dg.find f d.link n = some (ni : Int)) {a c : Int} (hk : Dg.at? d.kind (ni : Int) = some (t.kind : Int)) (ha : Dg.at? d.a (ni : Int) = some a) (hc : Dg.at? d.b (ni : Int) = some c) (ha0 : a < 0) (hc0 : c < 0) :
  Calls Try.prog 32 #[.pointer (some ⟨b, 0, none⟩), .int .i64 n, .agg #[.map (some T), .map (some R)]] w fun e w' => ∃ os az, e = .returned (tyV t.kind 0 0 os az) ∧ Rb w.heap.size w' t os az ∧ MI w' T N.1 ∧ MI w' R N.2 ∧ Ch (isTR T R) w w' := by
 have k0 : ¬ (t.kind : Int) = 0 := by omega
 have k6 : ¬ (t.kind : Int) = 6 := by omega
 have a0 : ¬ 0 ≤ a := by omega
 have c0 : ¬ 0 ≤ c := by omega
 have H1 := (h.quiet ((al_ch w (nmB T R)).al (ty0 0))).Find fn
 obtain ⟨n', e, hnl⟩ := find_at fn
 have hn' : ni = n' := by omega
 subst hn'
 have n0 : (0 : Int) ≤ ni := by omega
 have hW := h.quiet ((al_ch w (nmB T R)).al (ty0 0))
 obtain ⟨zg, zc, z1, z2, _, z4⟩ := GD.intAt hW.gm (j := 0) (by omega) hW.x0 (at_nat hk)
 have zb := hW.gm.cells.1
 rw [z1] at zb
 have zi : (ni : Int) < (d.kind.length : Int) := by omega
 clear z1
 have hW3 := h.quiet (W3.ch w T R t.kind)
 obtain ⟨xg, xc, x1, x2, _, x4⟩ := GD.intAt hW3.gm (j := 1) (by omega) hW3.x1 (at_nat ha)
 have xb := hW3.gm.cells.2.1
 rw [x1] at xb
 have xi : (ni : Int) < (d.a.length : Int) := by omega
 clear x1
 obtain ⟨yg, yc, y1, y2, _, y4⟩ := GD.intAt hW3.gm (j := 2) (by omega) hW3.x2 (at_nat hc)
 have yb := hW3.gm.cells.2.2.1
 rw [y1] at yb
 have yi : (ni : Int) < (d.b.length : Int) := by omega
 clear y1
 have hm := hid (hN.keep (W3.ch w T R t.kind) (fun h => h) (fun h => h))
 clear hW hW3 hk ha hc fn e
 replace h := hid h
 replace hN := hid hN
 go_enter Try.func32, Try.ntmps32
 go_upto_region 3 with (go_at_call 57; refine H1.mono ?_; clear H1; rintro e w1 ⟨rfl, hw1⟩; obtain rfl := hw1.symm)
 go_wp2
 refine bodyPost_ret (v := tyV t.kind 0 0 (.slice none 0 0) (.slice none 0 0)) (by simp [results, Try.results32, go_sem]) rfl ⟨_, _, rfl, Rb.leaf ht nul0 nul0, ?_, ?_, ?_⟩
 ·exact (hN.out.keep (((al_ch w _).al _).al _) (fun h => h) (fun h => h)).mT
 ·exact (hN.out.keep (((al_ch w _).al _).al _) (fun h => h) (fun h => h)).mR
 ·exact (((al_ch w _).al _).al _).mono (fun _ h => h.elim)
theorem ty_cells {w : World} {x : Nat} {k n r : Int} {os az : Value} (h : w.heap[x]? = some (tyB k n r os az)) : (w.cell? ⟨x, 0, none⟩ = some (.int .i64 k) ∧ w.cell? ⟨x, 1, none⟩ = some (.int .i64 n) ∧ w.cell? ⟨x, 2, none⟩ = some (.int .i64 r) ∧ w.cell? ⟨x, 3, none⟩ = some os ∧ w.cell? ⟨x, 4, none⟩ = some az) ∧ ∀ i, w.frozen? ⟨x, i, none⟩ = false :=
 ⟨Bx.cells h, fun i => by unfold World.frozen?; rw [h]; simp⟩
theorem ty_set {w : World} {x i : Nat} {k n r : Int} {os az v : Value} {o : Obj} (h : w.heap[x]? = some (tyB k n r os az)) (ho : Obj.cells (#[.int .i64 k, .int .i64 n, .int .i64 r, os, az].setIfInBounds i v) 49 (0, 0) = o) : (w.setCell ⟨x, i, none⟩ v).heap[x]? = some o := by
 rw [blk_set h, ← ho]
abbrev set5 (w : World) (x : Nat) (k n r : Int) (os az : Value) : World := ((((w.setCell ⟨x, 0, none⟩ (.int .i64 k)).setCell ⟨x, 1, none⟩ (.int .i64 n)).setCell ⟨x, 2, none⟩ (.int .i64 r)).setCell ⟨x, 3, none⟩ os).setCell ⟨x, 4, none⟩ az
theorem set5_blk {w : World} {x : Nat} {k n r k' n' r' : Int} {os az os' az' : Value} (h : w.heap[x]? = some (tyB k n r os az)) : (set5 w x k' n' r' os' az').heap[x]? = some (tyB k' n' r' os' az') :=
 ty_set (ty_set (ty_set (ty_set (ty_set h rfl) rfl) rfl) rfl) rfl
theorem Ch.setX {O : Nat → Prop} {w w' : World} (h : Ch O w w') (x i : Nat) (v : Value) (hx : O x ∨ w.heap.size ≤ x) : Ch O w (w'.setCell ⟨x, i, none⟩ v) := by
 refine h.trans (O1 := fun j => j = x) (Ch.setCell w' ⟨x, i, none⟩ v rfl) ?_
 rintro j rfl
 exact hx
theorem set5_ch {O : Nat → Prop} {w w' : World} (h : Ch O w w') {x : Nat} {k n r : Int} {os az : Value} (hx : O x ∨ w.heap.size ≤ x) : Ch O w (set5 w' x k n r os az) :=
 ((((h.setX x 0 _ hx).setX x 1 _ hx).setX x 2 _ hx).setX x 3 _ hx).setX x 4 _ hx
theorem Told_ret {Rr : Ending → World → Prop} {a : Act} {w : World} {x : Nat} {k n r : Int} {os az : Value} (hs : a.tmps[6]? = some (.pointer (some ⟨x, 0, none⟩))) (hd : a.defers = []) (hb : w.heap[x]? = some (tyB k n r os az)) (hR : Rr (.returned (tyV k n r os az)) w) : bodyPost Try.prog Try.f32 Rr .ret a w := by
 obtain ⟨h0, h1, h2, h3, h4⟩ := Bx.cells hb
 exact bodyPost_ret (v := tyV k n r os az) (by simp [results, Try.results32, go_sem, hs, h0, h1, h2, h3, h4]) hd hR
theorem Told_var {b T R f : Nat} {w : World} {G : Gg} {d : Dg.D} {n : Int} {N : Dg.NM} (h : GD w b G d) (hN : Nm2 w b G T R N) {ni : Nat} (fn : Dg.find f d.link n = some (ni : Int)) (hk : Dg.at? d.kind (ni : Int) = some 0) (hn : N.1.length < Dg.big) {m : Nat} (hm : (Dg.number N.1 ni).1 = (m : Int)) :
  Calls Try.prog 32 #[.pointer (some ⟨b, 0, none⟩), .int .i64 n, .agg #[.map (some T), .map (some R)]] w fun e w' => ∃ os az, e = .returned (tyV 0 m 0 os az) ∧ Rb w.heap.size w' (.var m) os az ∧ MI w' T (Dg.number N.1 ni).2 ∧ MI w' R N.2 ∧ Ch (isTR T R) w w' := by
 have H1 := (h.quiet ((al_ch w (nmB T R)).al (ty0 0))).Find fn
 obtain ⟨n', e, hnl⟩ := find_at fn
 have hn' : ni = n' := by omega
 subst hn'
 have n0 : (0 : Int) ≤ ni := by omega
 have hW := h.quiet ((al_ch w (nmB T R)).al (ty0 0))
 obtain ⟨zg, zc, z1, z2, _, z4⟩ := GD.intAt hW.gm (j := 0) (by omega) hW.x0 (at_nat hk)
 have zb := hW.gm.cells.1
 rw [z1] at zb
 have zi : (ni : Int) < (d.kind.length : Int) := by omega
 clear z1
 have hm3 := hid (hN.keep (W3.ch w T R 0) (fun h => h) (fun h => h))
 have H2 := number_any (W3 w T R 0) T N.1 hm3.out.mT hn ni
 rw [hm] at H2
 have hTl := hid hN.mT.lt
 clear hW hk fn e hm
 replace h := hid h
 replace hN := hid hN
 go_enter Try.func32, Try.ntmps32
 go_upto_region 3 with (go_at_call 57; refine H1.mono ?_; clear H1; rintro e w1 ⟨rfl, hw1⟩; obtain rfl := hw1.symm)
 go_upto_region 5 with (go_at_call 58; refine H2.mono ?_; clear H2; rintro e w1 ⟨rfl, s1, c1⟩; replace s1 := hid s1; obtain ⟨⟨p0, p1, p2, p3, p4⟩, pf⟩ := ty_cells (c1.keeps (W3.b2 w T R 0) (by have := hTl.out; omega)); obtain ⟨⟨q0, q1, q2, q3, q4⟩, qf⟩ := ty_cells (c1.keeps (W3.b1 w T R 0) (by have := hTl.out; omega)); replace c1 := hid c1)
 go_wp2
 have b1 : (w1.setCell ⟨w.heap.size + 1 + 1, 1, none⟩ (.int .i64 m)).heap[w.heap.size + 1]? = some (ty0 0) := by
  rw [Below.heap_setCell _ _ _ _ (by simp)]
  exact c1.out.keeps (W3.b1 w T R 0) (by have := hTl.out; omega)
 have cA : Ch (isTR T R) w (set5 (w1.setCell ⟨w.heap.size + 1 + 1, 1, none⟩ (.int .i64 m)) (w.heap.size + 1) 0 m 0 (.slice none 0 0) (.slice none 0 0)) := set5_ch (((((W3.ch w T R 0).mono (fun _ h => h.elim)).trans (c1.out.mono (fun _ h => .inl h)) (fun _ h => .inl h))).setX _ 1 _ (.inr (by omega))) (.inr (by omega))
 refine Told_ret rfl rfl (set5_blk b1) ⟨_, _, rfl, Rb.leaf (by simp [Ty.P.kind]) nul0 nul0, s1.out.keep ?_, ?_, cA⟩
 ·have hT := hTl.out
  try simp only [set5]
  repeat rw [Below.heap_setCell _ _ _ _ (by simp; omega)]
 ·refine hN.out.mR.keep ?_
  have hR := hN.out.mR.lt
  have hc : Ch (fun j => j = T) w (set5 (w1.setCell ⟨w.heap.size + 1 + 1, 1, none⟩ (.int .i64 m)) (w.heap.size + 1) 0 m 0 (.slice none 0 0) (.slice none 0 0)) := set5_ch (((((W3.ch w T R 0).mono (fun _ h => h.elim)).trans c1.out (fun _ h => .inl h))).setX _ 1 _ (.inr (by omega))) (.inr (by omega))
  exact hc.same R hR (fun e => hN.out.ne e.symm)
end Go.Proofs.Ytejciampbnfbhaa

namespace Go.Proofs.Ytejciampbnfbhaa
open Go.RowKit
theorem GM.ownv {w : World} {b : Nat} {G : Gg} {i : Nat} {g n c : Nat} (_ : GM w b G) (h : G.v i = .slice (some ⟨g, 0, none⟩) n c) (hi : i < 7 := by omega) : G.own b g := .inr (.inl ⟨i, hi, by rw [h]; rfl⟩)
theorem cell_ch {O : Nat → Prop} {w w' : World} (hc : Ch O w w') {x i : Nat} {v : Value} (h : w.cell? ⟨x, i, none⟩ = some v) (hO : ¬ O x) : w'.cell? ⟨x, i, none⟩ = some v := by
 have hx := World.block_lt_of_cell? w ⟨x, i, none⟩ h
 unfold World.cell? at h ⊢
 rw [hc.same x hx hO]
 exact h
theorem set4 {O : Nat → Prop} {w w' : World} (hc : Ch O w w') {x1 x2 x3 x4 i1 i2 i3 i4 : Nat} {v1 v2 v3 v4 : Value} (h1 : w.cell? ⟨x1, i1, none⟩ = some v1) (o1 : ¬ O x1) (h2 : w.cell? ⟨x2, i2, none⟩ = some v2) (o2 : ¬ O x2) (h3 : w.cell? ⟨x3, i3, none⟩ = some v3) (o3 : ¬ O x3) (h4 : w.cell? ⟨x4, i4, none⟩ = some v4) (o4 : ¬ O x4) : w'.cell? ⟨x1, i1, none⟩ = some v1 ∧ w'.cell? ⟨x2, i2, none⟩ = some v2 ∧ w'.cell? ⟨x3, i3, none⟩ = some v3 ∧ w'.cell? ⟨x4, i4, none⟩ = some v4 := ⟨cell_ch hc h1 o1, cell_ch hc h2 o2, cell_ch hc h3 o3, cell_ch hc h4 o4⟩
theorem nTR {b : Nat} {G : Gg} {T R : Nat} (hT : G.out b T) (hR : G.out b R) {x : Nat} (h : G.own b x) : ¬ isTR T R x := by
 rintro (rfl | rfl)
 ·exact hT.1 h
 ·exact hR.1 h
theorem step_append_run {P : Program} {ops : Array Oper} {o : Oper} {a : Act} {w w' : World} {v q v' : Value} {K : Act → World → Prop} {Q : Exit → Act → World → Prop} {E : Prop} (hg : o.guard = none) (s x : Operand) (t : TypeId) (hop : o.op = Op.call { callee := Callee.builtin Builtin.append, args := #[s, x], argTypes := #[t, t] })
  (hs : a.eval s = v) (hx : a.eval x = q) (hr : (Builtin.append_ #[t, t] o.type #[v, q]).run P w = .ok v' w') (hK : K (a.put o.dst v') w') : if Region.wanted o (yielded ops a.tmps) = true then Oper.wp P o a w K Q else E := by
 have hw : Region.wanted o (yielded ops a.tmps) = true := by simp [Region.wanted, hg]
 rw [if_pos hw]
 unfold Oper.wp execOp
 simp only [hop, resolve, invoke, builtin, Sem.run_bind, Sem.run_pure, Result.andThen_ok, List.map_toArray, List.map_cons, List.map_nil, hs, hx, hr]
 exact hK
theorem own_as1 {w : World} {v : Value} {xs : List Value} (h : w.ownsRow 0 49 5 v (0 + 1) ([] ++ xs)) : w.ownsRow 0 49 5 v 1 xs := h
theorem own_form1 {w : World} {v : Value} {xs : List Value} (h : w.ownsRow 0 49 5 v 1 xs) : ∃ g cap, v = .slice (some ⟨g, 0, none⟩) 1 cap := ownsRow_succ h
theorem Told_fin {b T R : Nat} {w W w2 w4 w5 : World} {G : Gg} {d : Dg.D} {N N' : Dg.NM} {t : Ty.P} {os az v' : Value} {o : Obj} {a : Act} (h : Hid (GD w b G d)) (hN : Hid (Nm2 w b G T R N)) (cW : Hid (Ch (fun _ => False) w W)) (c2 : Hid (Ch (isTR T R) W w2)) (r2 : Hid (Rb W.heap.size w2 t os az)) (sT : Hid (MI w2 T N'.1)) (sR : Hid (MI w2 R N'.2)) (c4 : Hid (Ch (fun _ => False) w2 w4))
  (hrow : Hid (w4.ownsRow 0 49 5 v' 1 (tyC t.kind t.num t.row os az))) (hblk : Hid (v'.ownBlock = (Value.slice none 0 0).ownBlock ∨ v'.ownBlock = some (w2.alloc o).heap.size)) (SZ : Hid (W.heap.size = w.heap.size + 3)) (B15 : Hid (w5.heap[w.heap.size + 1]? = some (ty0 0))) (k5 : Hid (Ch (fun j => j = w.heap.size + 1 + 1) w4 w5))
  (hs : a.tmps[6]? = some (.pointer (some ⟨w.heap.size + 1, 0, none⟩))) (hd : a.defers = []) :
  bodyPost Try.prog Try.f32 (fun e w' => ∃ os az, e = .returned (tyV 4 0 0 os az) ∧ Rb w.heap.size w' (.list t) os az ∧ MI w' T N'.1 ∧ MI w' R N'.2 ∧ Ch (isTR T R) w w') .ret a (set5 w5 (w.heap.size + 1) 4 0 0 (.slice none 0 0) v') := by
 have hT := hN.out.mT.lt
 have hR := hN.out.mR.lt
 have s2 := c2.out.size
 have sz := SZ.out
 have kf : Ch (fun j => j = w.heap.size + 1 + 1 ∨ j = w.heap.size + 1) w4 (set5 w5 (w.heap.size + 1) 4 0 0 (.slice none 0 0) v') := set5_ch (k5.out.mono (fun _ h => .inl h)) (.inl (.inr rfl))
 have k2 : Ch (fun j => j = w.heap.size + 1 + 1 ∨ j = w.heap.size + 1) w2 (set5 w5 (w.heap.size + 1) 4 0 0 (.slice none 0 0) v') := (c4.out.mono (fun _ h => h.elim)).trans kf (fun _ h => .inl h)
 have cf : Ch (isTR T R) w (set5 w5 (w.heap.size + 1) 4 0 0 (.slice none 0 0) v') := (((cW.out.mono (fun _ h => h.elim)).trans c2.out (fun _ h => .inl h)).trans k2 (fun j hj => .inr (by omega)))
 have own0 : w4.ownsRow 0 49 5 v' 1 (tyC t.kind t.num t.row os az) := hrow.out
 refine Told_ret hs hd (set5_blk B15.out) ⟨_, _, rfl, Rb.list nul0 ((r2.out.ch k2 (fun k h1 _ => by omega)).le (by omega)) ?_, sT.out.keep (k2.same T (sT.out.lt) (by omega)), sR.out.keep (k2.same R (sR.out.lt) (by omega)), cf⟩
 have hv : ∀ k, v'.ownBlock = some k → W.heap.size ≤ k := by
  intro k hk
  rcases hblk.out with e | e
  ·rw [e] at hk; cases hk
  ·rw [e] at hk
   have := Option.some.inj hk; have hz : (w2.alloc o).heap.size = w2.heap.size + 1 := by simp
   omega
 have r0 : TyRow W.heap.size w4 v' 1 (tyC t.kind t.num t.row os az) := ⟨own0, hv⟩
 have r1 := r0.ch kf (fun k hk e => by have := hv k hk; omega)
 exact ⟨r1.own, fun k hk => by have := r1.blk k hk; omega⟩
theorem Told_list {b T R f k : Nat} (ih : ToldOK b T R f k) {w : World} {G : Gg} {d : Dg.D} {n : Int} {N N' : Dg.NM} {t : Ty.P} (h : GD w b G d) (hN : Nm2 w b G T R N) {ni : Nat} (fn : Dg.find f d.link n = some (ni : Int)) {a c : Int} (hk : Dg.at? d.kind (ni : Int) = some 4) (ha : Dg.at? d.a (ni : Int) = some a) (hc : Dg.at? d.b (ni : Int) = some c) (ha0 : 0 ≤ a) (hc0 : c < 0)
  (hp : Dg.told f k d a N = some (t, N')) :
  Calls Try.prog 32 #[.pointer (some ⟨b, 0, none⟩), .int .i64 n, .agg #[.map (some T), .map (some R)]] w fun e w' => ∃ os az, e = .returned (tyV 4 0 0 os az) ∧ Rb w.heap.size w' (.list t) os az ∧ MI w' T N'.1 ∧ MI w' R N'.2 ∧ Ch (isTR T R) w w' := by
 have c0 : ¬ 0 ≤ c := by omega
 have H1 := (h.quiet ((al_ch w (nmB T R)).al (ty0 0))).Find fn
 obtain ⟨n', e, hnl⟩ := find_at fn
 have hn' : ni = n' := by omega
 subst hn'
 have n0 : (0 : Int) ≤ ni := by omega
 have hW := h.quiet ((al_ch w (nmB T R)).al (ty0 0))
 obtain ⟨zg, zc, z1, z2, _, z4⟩ := GD.intAt hW.gm (j := 0) (by omega) hW.x0 (at_nat hk)
 have zb := hW.gm.cells.1
 rw [z1] at zb
 have zi : (ni : Int) < (d.kind.length : Int) := by omega
 have zo := GM.ownv hW.gm z1
 clear z1
 have hW3 := h.quiet (W3.ch w T R 4)
 obtain ⟨xg, xc, x1, x2, _, x4⟩ := GD.intAt hW3.gm (j := 1) (by omega) hW3.x1 (at_nat ha)
 have xb := hW3.gm.cells.2.1
 rw [x1] at xb
 have xi : (ni : Int) < (d.a.length : Int) := by omega
 have xo := GM.ownv hW3.gm x1
 clear x1
 obtain ⟨yg, yc, y1, y2, _, y4⟩ := GD.intAt hW3.gm (j := 2) (by omega) hW3.x2 (at_nat hc)
 have yb := hW3.gm.cells.2.2.1
 rw [y1] at yb
 have yi : (ni : Int) < (d.b.length : Int) := by omega
 have yo := GM.ownv hW3.gm y1
 clear y1
 have hm := hN.keep (W3.ch w T R 4) (fun h => h) (fun h => h)
 have ob : G.own b b := .inl rfl
 have nb := hid (nTR hN.oT hN.oR ob)
 have nx := hid (nTR hN.oT hN.oR xo)
 have ny := hid (nTR hN.oT hN.oR yo)
 have lT := hid hN.mT.lt
 have lR := hid hN.mR.lt
 have lb := hid (h.gm.lt ob)
 have lx := hid (h.gm.lt xo)
 have ly := hid (h.gm.lt yo)
 have cW := hid (W3.ch w T R 4)
 have HT : Hid (∀ w', Ch (fun _ => False) (W3 w T R 4) w' → (∀ k, k < (W3 w T R 4).heap.size → w'.heap[k]? = (W3 w T R 4).heap[k]?) → Calls Try.prog 32 #[.pointer (some ⟨b, 0, none⟩), .int .i64 a, .agg #[.map (some T), .map (some R)]] w' fun e w2 => ∃ os az, e = .returned (tyV t.kind t.num t.row os az) ∧ Rb (W3 w T R 4).heap.size w2 t os az ∧ MI w2 T N'.1 ∧ MI w2 R N'.2 ∧ Ch (isTR T R) (W3 w T R 4) w2) := hid fun w' hc' _ => (ih (hW3.quiet hc') (hm.keep hc' (fun h => h) (fun h => h)) hp).mono (by
  rintro e w2 ⟨os, az, rfl, r2, sT, sR, c2⟩
  exact ⟨os, az, rfl, r2.le hc'.size, sT, sR, (hc'.mono (fun _ h => h.elim)).trans c2 (fun _ h => .inl h)⟩)
 have B0 := hid (W3.b0 w T R 4)
 have B1 := hid (W3.b1 w T R 4)
 have B2 := hid (W3.b2 w T R 4)
 have SZ := hid (W3.size w T R 4)
 clear hW hW3 hm hk ha hc fn e xo yo zo ob
 replace h := hid h
 replace hN := hid hN
 go_enter Try.func32, Try.ntmps32
 go_upto_region 3 with (go_at_call 57; refine H1.mono ?_; clear H1; rintro e w1 ⟨rfl, hw1⟩; obtain rfl := hw1.symm)
 go_upto_region 7 with (fail)
 clear zb z2 z4
 change Code.wp _ _ _ _ (W3 w T R 4)
 generalize W3 w T R 4 = W at *
 obtain ⟨⟨p0, p1, p2, p3, p4⟩, pf⟩ := ty_cells B2.out
 have m0 : W.cell? ⟨w.heap.size, 0, none⟩ = some (.map (some T)) := by unfold World.cell?; rw [B0.out]; rfl
 have m1 : W.cell? ⟨w.heap.size, 1, none⟩ = some (.map (some R)) := by unfold World.cell?; rw [B0.out]; rfl
 refine wp_region_held_drew (S := (fun w' => w'.cell? ⟨b, 1, none⟩ = some (.slice (some ⟨xg, 0, none⟩) d.a.length xc) ∧ w'.cell? ⟨xg, ni, none⟩ = some (.int .i64 a) ∧ w'.cell? ⟨w.heap.size, 0, none⟩ = some (.map (some T)) ∧ w'.cell? ⟨w.heap.size, 1, none⟩ = some (.map (some R)))) (by kernel_rfl) (by first | trivial | ((try dsimp only); go_keep)) (fun hHeld => ?_)
 refine tk 0 rfl ?_
 refine tk 2 rfl ?_
 refine tk 3 rfl ?_
 refine tk 4 rfl ?_
 refine tk 5 rfl ?_
 refine tk 6 rfl ?_
 refine tk 7 rfl ?_
 refine tk 8 rfl ?_
 refine tk 9 rfl ?_
 refine tk 10 rfl ?_
 refine rd2 1 11 rfl (fun K hK => ?_) rfl (fun K hK => ?_)
 ·go_simp
  clear hHeld
  refine gn hK (fun hHeld => ?_)
  clear hK K
  refine rd1 11 rfl (fun K hK => ?_)
  go_simp
  refine (HT.out W.drew ⟨Nat.le_refl _, fun _ _ _ => rfl, rfl, rfl⟩ (fun _ _ => rfl)).mono ?_
  rintro e w2 ⟨os, az, rfl, r2, sT, sR, c2⟩
  have xb' := cell_ch c2 xb nb.out
  have x2' := cell_ch c2 x2 nx.out
  have m0' := cell_ch c2 m0 (by have := lT.out; have := lR.out; rintro (e | e) <;> omega)
  have m1' := cell_ch c2 m1 (by have := lT.out; have := lR.out; rintro (e | e) <;> omega)
  have B2' := hid (c2.keeps B2.out (by have := lT.out; have := lR.out; rintro (e | e) <;> omega))
  have B1' := hid (c2.keeps B1.out (by have := lT.out; have := lR.out; rintro (e | e) <;> omega))
  obtain ⟨⟨p0', p1', p2', p3', p4'⟩, pf'⟩ := ty_cells B2'.out
  replace c2 := hid c2
  replace r2 := hid r2
  replace sT := hid sT
  replace sR := hid sR
  dsimp only
  clear hHeld
  refine gn hK (fun hHeld => ?_)
  clear hK K
  refine rd1 12 rfl (fun K hK => ?_)
  go_simp
  clear hHeld
  refine gn hK (fun hHeld => ?_)
  clear hK K
  refine rd1 13 rfl (fun K hK => ?_)
  obtain ⟨v', w4, hr4, hrow, hgrow, hblk⟩ := run_append_ty (w := w2.alloc (.cells #[.int .i64 t.kind, .int .i64 t.num, .int .i64 t.row, os, az] 49)) (TyRow.nil 0 _).own (World.alloc_heap_new w2 _) r2.out.so r2.out.sa (by omega) 47
  have c4 : Ch (fun _ => False) w2 w4 := (al_ch w2 _).trans (O1 := fun _ => False) (Ch.grown hgrow (fun k hk => by cases hk)) (fun _ h => h.elim)
  have xb4 := cell_ch c4 xb' (fun h => h)
  have x24 := cell_ch c4 x2' (fun h => h)
  have m04 := cell_ch c4 m0' (fun h => h)
  have m14 := cell_ch c4 m1' (fun h => h)
  have hS5 := And.intro xb4 (And.intro x24 (And.intro m04 m14))
  have B24 := hid (c4.keeps B2'.out (fun h => h))
  have B14 := hid (c4.keeps B1'.out (fun h => h))
  replace hrow := own_as1 hrow
  obtain ⟨g4, cap4, rfl⟩ := own_form1 hrow
  replace hrow := hid hrow
  replace hgrow := hid hgrow
  replace hblk := hid hblk
  replace c4 := hid c4
  refine step_append_run rfl (.tmp 39) (.tmp 50) 47 rfl rfl rfl hr4 ?_
  clear hr4
  clear hHeld
  refine gn hK (fun hHeld => ?_)
  clear hK K
  clear hS5
  obtain ⟨⟨q0, q1, q2, q3, q4⟩, qf⟩ := ty_cells B24.out
  refine tk 14 rfl ?_
  refine rd1 15 rfl (fun K hK => ?_)
  go_simp
  have hS5 := set4 (Ch.setCell (O := fun j => j = w.heap.size + 1 + 1) w4 ⟨w.heap.size + 1 + 1, 4, none⟩ (.slice (some ⟨g4, 0, none⟩) 1 cap4) rfl) xb4 (by have := lb.out; omega) x24 (by have := lx.out; omega) m04 (by omega) m14 (by omega)
  clear hHeld
  refine gn hK (fun hHeld => ?_)
  clear hK K
  refine wpAnyH_done (by kernel_rfl) ?_ _
  clear hHeld
  obtain ⟨w5, e5⟩ : ∃ w5, w5 = w4.setCell ⟨w.heap.size + 1 + 1, 4, none⟩ (.slice (some ⟨g4, 0, none⟩) 1 cap4) := ⟨_, rfl⟩
  rw [← e5]
  have k5 : Ch (fun j => j = w.heap.size + 1 + 1) w4 w5 := by rw [e5]; exact Ch.setCell _ _ _ rfl
  have B25 : w5.heap[w.heap.size + 1 + 1]? = some (tyB 4 0 0 (.slice none 0 0) (.slice (some ⟨g4, 0, none⟩) 1 cap4)) := by rw [e5]; exact ty_set B24.out rfl
  have B15 := k5.keeps B14.out (by omega)
  clear e5
  have yb5 := cell_ch k5 (cell_ch c4.out (cell_ch c2.out yb nb.out) (fun h => h)) (by have := lb.out; omega)
  have y25 := cell_ch k5 (cell_ch c4.out (cell_ch c2.out y2 ny.out) (fun h => h)) (by have := ly.out; omega)
  clear hS5 xb4 x24 m04 m14 xb' x2' m0' m1' p0' p1' p2' p3' p4' pf' q0 q1 q2 q3 q4 qf xb x2 m0 m1 p0 p1 p2 p3 p4 pf yb y2
  obtain ⟨⟨q0, q1, q2, q3, q4⟩, qf⟩ := ty_cells B25
  obtain ⟨⟨u0, u1, u2, u3, u4⟩, uf⟩ := ty_cells B15
  replace B15 := hid B15
  replace B25 := hid B25
  replace k5 := hid k5
  go_wp2
  exact Told_fin h hN cW c2 r2 sT sR c4 hrow hblk SZ B15 k5 rfl rfl
 ·go_simp
  refine (HT.out W.drew ⟨Nat.le_refl _, fun _ _ _ => rfl, rfl, rfl⟩ (fun _ _ => rfl)).mono ?_
  rintro e w2 ⟨os, az, rfl, r2, sT, sR, c2⟩
  have xb' := cell_ch c2 xb nb.out
  have x2' := cell_ch c2 x2 nx.out
  have m0' := cell_ch c2 m0 (by have := lT.out; have := lR.out; rintro (e | e) <;> omega)
  have m1' := cell_ch c2 m1 (by have := lT.out; have := lR.out; rintro (e | e) <;> omega)
  have B2' := hid (c2.keeps B2.out (by have := lT.out; have := lR.out; rintro (e | e) <;> omega))
  have B1' := hid (c2.keeps B1.out (by have := lT.out; have := lR.out; rintro (e | e) <;> omega))
  obtain ⟨⟨p0', p1', p2', p3', p4'⟩, pf'⟩ := ty_cells B2'.out
  replace c2 := hid c2
  replace r2 := hid r2
  replace sT := hid sT
  replace sR := hid sR
  dsimp only
  clear hHeld
  refine gn hK (fun hHeld => ?_)
  clear hK K
  refine rd2 1 12 rfl (fun K hK => ?_) rfl (fun K hK => ?_)
  ·go_simp
   clear hHeld; refine gn hK (fun hHeld => ?_); clear hK K; refine rd1 12 rfl (fun K hK => ?_)
   go_simp
   clear hHeld; refine gn hK (fun hHeld => ?_); clear hK K; refine rd1 13 rfl (fun K hK => ?_); obtain ⟨v', w4, hr4, hrow, hgrow, hblk⟩ := run_append_ty (w := w2.alloc (.cells #[.int .i64 t.kind, .int .i64 t.num, .int .i64 t.row, os, az] 49)) (TyRow.nil 0 _).own (World.alloc_heap_new w2 _) r2.out.so r2.out.sa (by omega) 47; have c4 : Ch (fun _ => False) w2 w4 := (al_ch w2 _).trans (O1 := fun _ => False) (Ch.grown hgrow (fun k hk => by cases hk)) (fun _ h => h.elim); have xb4 := cell_ch c4 xb' (fun h => h); have x24 := cell_ch c4 x2' (fun h => h); have m04 := cell_ch c4 m0' (fun h => h); have m14 := cell_ch c4 m1' (fun h => h); have hS5 := And.intro xb4 (And.intro x24 (And.intro m04 m14)); have B24 := hid (c4.keeps B2'.out (fun h => h)); have B14 := hid (c4.keeps B1'.out (fun h => h)); replace hrow := own_as1 hrow; obtain ⟨g4, cap4, rfl⟩ := own_form1 hrow; replace hrow := hid hrow; replace hgrow := hid hgrow; replace hblk := hid hblk; replace c4 := hid c4; refine step_append_run rfl (.tmp 39) (.tmp 50) 47 rfl rfl rfl hr4 ?_; clear hr4; clear hHeld; refine gn hK (fun hHeld => ?_); clear hK K; clear hS5; obtain ⟨⟨q0, q1, q2, q3, q4⟩, qf⟩ := ty_cells B24.out; refine tk 14 rfl ?_; refine rd1 15 rfl (fun K hK => ?_)
   go_simp
   have hS5 := set4 (Ch.setCell (O := fun j => j = w.heap.size + 1 + 1) w4 ⟨w.heap.size + 1 + 1, 4, none⟩ (.slice (some ⟨g4, 0, none⟩) 1 cap4) rfl) xb4 (by have := lb.out; omega) x24 (by have := lx.out; omega) m04 (by omega) m14 (by omega); clear hHeld; refine gn hK (fun hHeld => ?_); clear hK K; refine wpAnyH_done (by kernel_rfl) ?_ _; clear hHeld; obtain ⟨w5, e5⟩ : ∃ w5, w5 = w4.setCell ⟨w.heap.size + 1 + 1, 4, none⟩ (.slice (some ⟨g4, 0, none⟩) 1 cap4) := ⟨_, rfl⟩; rw [← e5]; have k5 : Ch (fun j => j = w.heap.size + 1 + 1) w4 w5 := by rw [e5]; exact Ch.setCell _ _ _ rfl
   have B25 : w5.heap[w.heap.size + 1 + 1]? = some (tyB 4 0 0 (.slice none 0 0) (.slice (some ⟨g4, 0, none⟩) 1 cap4)) := by rw [e5]; exact ty_set B24.out rfl
   have B15 := k5.keeps B14.out (by omega); clear e5; have yb5 := cell_ch k5 (cell_ch c4.out (cell_ch c2.out yb nb.out) (fun h => h)) (by have := lb.out; omega); have y25 := cell_ch k5 (cell_ch c4.out (cell_ch c2.out y2 ny.out) (fun h => h)) (by have := ly.out; omega); clear hS5 xb4 x24 m04 m14 xb' x2' m0' m1' p0' p1' p2' p3' p4' pf' q0 q1 q2 q3 q4 qf xb x2 m0 m1 p0 p1 p2 p3 p4 pf yb y2; obtain ⟨⟨q0, q1, q2, q3, q4⟩, qf⟩ := ty_cells B25; obtain ⟨⟨u0, u1, u2, u3, u4⟩, uf⟩ := ty_cells B15; replace B15 := hid B15; replace B25 := hid B25; replace k5 := hid k5
   go_wp2
   exact Told_fin h hN cW c2 r2 sT sR c4 hrow hblk SZ B15 k5 rfl rfl
  ·go_simp
   clear hHeld; refine gn hK (fun hHeld => ?_); clear hK K; have p4'' := cell_ch (al_ch w2 (.cells #[.int .i64 t.kind, .int .i64 t.num, .int .i64 t.row, os, az] 49)) p4' (fun h => h); refine rd1 1 rfl (fun K hK => ?_)
   go_simp
   clear hHeld; refine gn hK (fun hHeld => ?_); clear hK K; refine rd1 13 rfl (fun K hK => ?_); obtain ⟨v', w4, hr4, hrow, hgrow, hblk⟩ := run_append_ty (w := w2.alloc (.cells #[.int .i64 t.kind, .int .i64 t.num, .int .i64 t.row, os, az] 49)) (TyRow.nil 0 _).own (World.alloc_heap_new w2 _) r2.out.so r2.out.sa (by omega) 47; have c4 : Ch (fun _ => False) w2 w4 := (al_ch w2 _).trans (O1 := fun _ => False) (Ch.grown hgrow (fun k hk => by cases hk)) (fun _ h => h.elim); have xb4 := cell_ch c4 xb' (fun h => h); have x24 := cell_ch c4 x2' (fun h => h); have m04 := cell_ch c4 m0' (fun h => h); have m14 := cell_ch c4 m1' (fun h => h); have hS5 := And.intro xb4 (And.intro x24 (And.intro m04 m14)); have B24 := hid (c4.keeps B2'.out (fun h => h)); have B14 := hid (c4.keeps B1'.out (fun h => h)); replace hrow := own_as1 hrow; obtain ⟨g4, cap4, rfl⟩ := own_form1 hrow; replace hrow := hid hrow; replace hgrow := hid hgrow; replace hblk := hid hblk; replace c4 := hid c4; refine step_append_run rfl (.tmp 39) (.tmp 50) 47 rfl rfl rfl hr4 ?_; clear hr4; clear hHeld; refine gn hK (fun hHeld => ?_); clear hK K; clear hS5; obtain ⟨⟨q0, q1, q2, q3, q4⟩, qf⟩ := ty_cells B24.out; refine tk 14 rfl ?_; refine rd1 15 rfl (fun K hK => ?_)
   go_simp
   have hS5 := set4 (Ch.setCell (O := fun j => j = w.heap.size + 1 + 1) w4 ⟨w.heap.size + 1 + 1, 4, none⟩ (.slice (some ⟨g4, 0, none⟩) 1 cap4) rfl) xb4 (by have := lb.out; omega) x24 (by have := lx.out; omega) m04 (by omega) m14 (by omega); clear hHeld; refine gn hK (fun hHeld => ?_); clear hK K; refine wpAnyH_done (by kernel_rfl) ?_ _; clear hHeld; obtain ⟨w5, e5⟩ : ∃ w5, w5 = w4.setCell ⟨w.heap.size + 1 + 1, 4, none⟩ (.slice (some ⟨g4, 0, none⟩) 1 cap4) := ⟨_, rfl⟩; rw [← e5]; have k5 : Ch (fun j => j = w.heap.size + 1 + 1) w4 w5 := by rw [e5]; exact Ch.setCell _ _ _ rfl
   have B25 : w5.heap[w.heap.size + 1 + 1]? = some (tyB 4 0 0 (.slice none 0 0) (.slice (some ⟨g4, 0, none⟩) 1 cap4)) := by rw [e5]; exact ty_set B24.out rfl
   have B15 := k5.keeps B14.out (by omega); clear e5; have yb5 := cell_ch k5 (cell_ch c4.out (cell_ch c2.out yb nb.out) (fun h => h)) (by have := lb.out; omega); have y25 := cell_ch k5 (cell_ch c4.out (cell_ch c2.out y2 ny.out) (fun h => h)) (by have := ly.out; omega); clear hS5 xb4 x24 m04 m14 xb' x2' m0' m1' p0' p1' p2' p3' p4' pf' q0 q1 q2 q3 q4 qf xb x2 m0 m1 p0 p1 p2 p3 p4 pf yb y2; obtain ⟨⟨q0, q1, q2, q3, q4⟩, qf⟩ := ty_cells B25; obtain ⟨⟨u0, u1, u2, u3, u4⟩, uf⟩ := ty_cells B15; replace B15 := hid B15; replace B25 := hid B25; replace k5 := hid k5
   go_wp2
   exact Told_fin h hN cW c2 r2 sT sR c4 hrow hblk SZ B15 k5 rfl rfl
end Go.Proofs.Ytejciampbnfbhaa
