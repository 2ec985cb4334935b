import Derived.Test.YtejciampbnfbhaaHw
import Derived.Test.YtejciampbnfbhaaDx
set_option linter.unusedVariables false
set_option linter.unusedSimpArgs false
set_option maxRecDepth 100000
set_option maxHeartbeats 16000000
namespace Go.Proofs.Ytejciampbnfbhaa
open Go.RowKit
theorem Told_fn0 {b T R f k : Nat} (ih : ToldOK b T R f k) {w : World} {G : Gg} {d : Dg.D} {n : Int} {N N1 N2 : Dg.NM} {t t2 : Ty.P} (h : GD w b G d) (hN : Nm2 w b G T R N) {ni : Nat} (fn : Dg.find f d.link n = some (ni : Int)) {a c : Int} (hk : Dg.at? d.kind (ni : Int) = some 6) (ha : Dg.at? d.a (ni : Int) = some a) (hc : Dg.at? d.b (ni : Int) = some c) (ha0 : 0 ≤ a) (hc0 : 0 ≤ c)
  {r v : Int} {l : List (List UInt8)} (hrr : Dg.at? d.row (ni : Int) = some r) (hw : Dg.whole f d r [] = some (l, v)) (hv : ¬ 0 < v) (hp : Dg.told f k d a N = some (t, N1)) (hp2 : Dg.told f k d c N1 = some (t2, N2)) :
  Calls Try.prog 32 #[.pointer (some ⟨b, 0, none⟩), .int .i64 n, .agg #[.map (some T), .map (some R)]] w fun e w' => ∃ os az, e = .returned (tyV 6 0 0 os az) ∧ Rb w.heap.size w' (.fn t t2 l 0) os az ∧ MI w' T N2.1 ∧ MI w' R N2.2 ∧ Ch (isTR T R) w w' := by
 replace hrr := hid hrr
 replace hw := hid hw
 replace hp2 := hid hp2
 have H1 := (h.quiet ((al_ch w (nmB T R)).al (ty0 0))).Find fn
 obtain ⟨n', e, hnl⟩ := find_at fn
 have hn' : ni = n' := by omega
 subst hn'
 have n0 : (0 : Int) ≤ ni := by omega
 have hW := h.quiet ((al_ch w (nmB T R)).al (ty0 0))
 obtain ⟨zg, zc, z1, z2, _, z4⟩ := GD.intAt hW.gm (j := 0) (by omega) hW.x0 (at_nat hk)
 have zb := hW.gm.cells.1
 rw [z1] at zb
 have zi : (ni : Int) < (d.kind.length : Int) := by omega
 have zo := GM.ownv hW.gm z1
 clear z1
 have hW3 := h.quiet (W3.ch w T R 6)
 obtain ⟨xg, xc, x1, x2, _, x4⟩ := GD.intAt hW3.gm (j := 1) (by omega) hW3.x1 (at_nat ha)
 have xb := hW3.gm.cells.2.1
 rw [x1] at xb
 have xi : (ni : Int) < (d.a.length : Int) := by omega
 have xo := GM.ownv hW3.gm x1
 clear x1
 have hm := hN.keep (W3.ch w T R 6) (fun h => h) (fun h => h)
 have ob : G.own b b := .inl rfl
 have nb := hid (nTR hN.oT hN.oR ob)
 have nx := hid (nTR hN.oT hN.oR xo)
 have lT := hid hN.mT.lt
 have lR := hid hN.mR.lt
 have lb := hid (h.gm.lt ob)
 have lx := hid (h.gm.lt xo)
 have cW := hid (W3.ch w T R 6)
 have HT : Hid (∀ w', Ch (fun _ => False) (W3 w T R 6) w' → Calls Try.prog 32 #[.pointer (some ⟨b, 0, none⟩), .int .i64 a, .agg #[.map (some T), .map (some R)]] w' fun e w2 => ∃ os az, e = .returned (tyV t.kind t.num t.row os az) ∧ Rb (W3 w T R 6).heap.size w2 t os az ∧ MI w2 T N1.1 ∧ MI w2 R N1.2 ∧ Ch (isTR T R) (W3 w T R 6) w2) := hid fun w' hc' => (ih (hW3.quiet hc') (hm.keep hc' (fun h => h) (fun h => h)) hp).mono (by
  rintro e w2 ⟨os, az, rfl, r2, sT, sR, c2⟩
  exact ⟨os, az, rfl, r2.le hc'.size, sT, sR, (hc'.mono (fun _ h => h.elim)).trans c2 (fun _ h => .inl h)⟩)
 have B0 := hid (W3.b0 w T R 6)
 have B1 := hid (W3.b1 w T R 6)
 have B2 := hid (W3.b2 w T R 6)
 have SZ := hid (W3.size w T R 6)
 clear hW hW3 hm hk ha fn e xo zo ob
 replace h := hid h
 replace hN := hid hN
 replace hc := hid hc
 replace hp := hid hp
 replace ih := @hid _ @ih
 go_enter Try.func32, Try.ntmps32
 go_upto_region 3 with (go_at_call 57; refine H1.mono ?_; clear H1; rintro e w1 ⟨rfl, hw1⟩; obtain rfl := hw1.symm)
 go_upto_region 7 with (fail)
 clear zb z2 z4
 change Code.wp _ _ _ _ (W3 w T R 6)
 generalize W3 w T R 6 = W at *
 have m0 : W.cell? ⟨w.heap.size, 0, none⟩ = some (.map (some T)) := by unfold World.cell?; rw [B0.out]; rfl
 have m1 : W.cell? ⟨w.heap.size, 1, none⟩ = some (.map (some R)) := by unfold World.cell?; rw [B0.out]; rfl
 refine Code.wp_mono (Q := Exit.then (fun a' w5 => FrT a' b ni w.heap.size ∧ ∃ w2 os az g4 cap4, Kid1 w.heap.size W w2 w5 T R 6 t os az g4 cap4 N1) (fun _ _ _ => False)) ?cont ?reg
 case reg =>
  obtain ⟨⟨p0, p1, p2, p3, p4⟩, pf⟩ := ty_cells B2.out
  refine wp_region_held_drew (S := (fun w' => w'.cell? ⟨b, 1, none⟩ = some (.slice (some ⟨xg, 0, none⟩) d.a.length xc) ∧ w'.cell? ⟨xg, ni, none⟩ = some (.int .i64 a) ∧ w'.cell? ⟨w.heap.size, 0, none⟩ = some (.map (some T)) ∧ w'.cell? ⟨w.heap.size, 1, none⟩ = some (.map (some R)))) (by kernel_rfl) (by first | trivial | ((try dsimp only); go_keep)) (fun hHeld => ?_)
  refine tk 0 rfl ?_
  refine tk 2 rfl ?_
  refine tk 3 rfl ?_
  refine tk 4 rfl ?_
  refine tk 5 rfl ?_
  refine tk 6 rfl ?_
  refine tk 7 rfl ?_
  refine tk 8 rfl ?_
  refine tk 9 rfl ?_
  refine tk 10 rfl ?_
  refine rd2 1 11 rfl (fun K hK => ?_) rfl (fun K hK => ?_)
  ·go_simp
   clear hHeld; refine gn hK (fun hHeld => ?_); clear hK K; refine rd1 11 rfl (fun K hK => ?_)
   go_simp
   refine (HT.out W.drew ⟨Nat.le_refl _, fun _ _ _ => rfl, rfl, rfl⟩).mono ?_; rintro e w2 ⟨os, az, rfl, r2, sT, sR, c2⟩; have xb' := cell_ch c2 xb nb.out; have x2' := cell_ch c2 x2 nx.out; have m0' := cell_ch c2 m0 (by have := lT.out; have := lR.out; rintro (e | e) <;> omega); have m1' := cell_ch c2 m1 (by have := lT.out; have := lR.out; rintro (e | e) <;> omega); have B2' := hid (c2.keeps B2.out (by have := lT.out; have := lR.out; rintro (e | e) <;> omega)); have B1' := hid (c2.keeps B1.out (by have := lT.out; have := lR.out; rintro (e | e) <;> omega)); obtain ⟨⟨p0', p1', p2', p3', p4'⟩, pf'⟩ := ty_cells B2'.out; replace c2 := hid c2; replace r2 := hid r2; replace sT := hid sT; replace sR := hid sR
   dsimp only
   clear hHeld; refine gn hK (fun hHeld => ?_); clear hK K; refine rd1 12 rfl (fun K hK => ?_)
   go_simp
   clear hHeld; refine gn hK (fun hHeld => ?_); clear hK K; refine rd1 13 rfl (fun K hK => ?_); obtain ⟨v', w4, hr4, hrow, hgrow, hblk⟩ := run_append_ty (w := w2.alloc (.cells #[.int .i64 t.kind, .int .i64 t.num, .int .i64 t.row, os, az] 49)) (TyRow.nil 0 _).own (World.alloc_heap_new w2 _) r2.out.so r2.out.sa (by omega) 47; have c4 : Ch (fun _ => False) w2 w4 := (al_ch w2 _).trans (O1 := fun _ => False) (Ch.grown hgrow (fun k hk => by cases hk)) (fun _ h => h.elim); have xb4 := cell_ch c4 xb' (fun h => h); have x24 := cell_ch c4 x2' (fun h => h); have m04 := cell_ch c4 m0' (fun h => h); have m14 := cell_ch c4 m1' (fun h => h); have hS5 := And.intro xb4 (And.intro x24 (And.intro m04 m14)); have B24 := hid (c4.keeps B2'.out (fun h => h)); have B14 := hid (c4.keeps B1'.out (fun h => h)); replace hrow := own_as1 hrow; obtain ⟨g4, cap4, rfl⟩ := own_form1 hrow; replace hrow := hid hrow; replace hblk := hid hblk; replace c4 := hid c4; refine step_append_run rfl (.tmp 39) (.tmp 50) 47 rfl rfl rfl hr4 ?_; clear hr4 hgrow; clear hHeld; refine gn hK (fun hHeld => ?_); clear hK K; clear hS5; obtain ⟨⟨q0, q1, q2, q3, q4⟩, qf⟩ := ty_cells B24.out; refine tk 14 rfl ?_; refine rd1 15 rfl (fun K hK => ?_)
   go_simp
   have hS5 := set4 (Ch.setCell (O := fun j => j = w.heap.size + 1 + 1) w4 ⟨w.heap.size + 1 + 1, 4, none⟩ (.slice (some ⟨g4, 0, none⟩) 1 cap4) rfl) xb4 (by have := lb.out; omega) x24 (by have := lx.out; omega) m04 (by omega) m14 (by omega); clear hHeld; refine gn hK (fun hHeld => ?_); clear hK K; refine wpAnyH_done (by kernel_rfl) ?_ _; clear hHeld; exact ⟨⟨rfl, rfl, rfl, rfl, rfl, rfl, rfl⟩, w2, os, az, g4, cap4, Kid1.mk' lT.out lR.out c2.out r2.out sT.out sR.out SZ.out c4.out hrow.out hblk.out B14.out B24.out⟩
  ·go_simp
   refine (HT.out W.drew ⟨Nat.le_refl _, fun _ _ _ => rfl, rfl, rfl⟩).mono ?_; rintro e w2 ⟨os, az, rfl, r2, sT, sR, c2⟩; have xb' := cell_ch c2 xb nb.out; have x2' := cell_ch c2 x2 nx.out; have m0' := cell_ch c2 m0 (by have := lT.out; have := lR.out; rintro (e | e) <;> omega); have m1' := cell_ch c2 m1 (by have := lT.out; have := lR.out; rintro (e | e) <;> omega); have B2' := hid (c2.keeps B2.out (by have := lT.out; have := lR.out; rintro (e | e) <;> omega)); have B1' := hid (c2.keeps B1.out (by have := lT.out; have := lR.out; rintro (e | e) <;> omega)); obtain ⟨⟨p0', p1', p2', p3', p4'⟩, pf'⟩ := ty_cells B2'.out; replace c2 := hid c2; replace r2 := hid r2; replace sT := hid sT; replace sR := hid sR
   dsimp only
   clear hHeld; refine gn hK (fun hHeld => ?_); clear hK K; refine rd2 1 12 rfl (fun K hK => ?_) rfl (fun K hK => ?_)
   ·go_simp
    clear hHeld; refine gn hK (fun hHeld => ?_); clear hK K; refine rd1 12 rfl (fun K hK => ?_)
    go_simp
    clear hHeld; refine gn hK (fun hHeld => ?_); clear hK K; refine rd1 13 rfl (fun K hK => ?_); obtain ⟨v', w4, hr4, hrow, hgrow, hblk⟩ := run_append_ty (w := w2.alloc (.cells #[.int .i64 t.kind, .int .i64 t.num, .int .i64 t.row, os, az] 49)) (TyRow.nil 0 _).own (World.alloc_heap_new w2 _) r2.out.so r2.out.sa (by omega) 47; have c4 : Ch (fun _ => False) w2 w4 := (al_ch w2 _).trans (O1 := fun _ => False) (Ch.grown hgrow (fun k hk => by cases hk)) (fun _ h => h.elim); have xb4 := cell_ch c4 xb' (fun h => h); have x24 := cell_ch c4 x2' (fun h => h); have m04 := cell_ch c4 m0' (fun h => h); have m14 := cell_ch c4 m1' (fun h => h); have hS5 := And.intro xb4 (And.intro x24 (And.intro m04 m14)); have B24 := hid (c4.keeps B2'.out (fun h => h)); have B14 := hid (c4.keeps B1'.out (fun h => h)); replace hrow := own_as1 hrow; obtain ⟨g4, cap4, rfl⟩ := own_form1 hrow; replace hrow := hid hrow; replace hblk := hid hblk; replace c4 := hid c4; refine step_append_run rfl (.tmp 39) (.tmp 50) 47 rfl rfl rfl hr4 ?_; clear hr4 hgrow; clear hHeld; refine gn hK (fun hHeld => ?_); clear hK K; clear hS5; obtain ⟨⟨q0, q1, q2, q3, q4⟩, qf⟩ := ty_cells B24.out; refine tk 14 rfl ?_; refine rd1 15 rfl (fun K hK => ?_)
    go_simp
    have hS5 := set4 (Ch.setCell (O := fun j => j = w.heap.size + 1 + 1) w4 ⟨w.heap.size + 1 + 1, 4, none⟩ (.slice (some ⟨g4, 0, none⟩) 1 cap4) rfl) xb4 (by have := lb.out; omega) x24 (by have := lx.out; omega) m04 (by omega) m14 (by omega); clear hHeld; refine gn hK (fun hHeld => ?_); clear hK K; refine wpAnyH_done (by kernel_rfl) ?_ _; clear hHeld; exact ⟨⟨rfl, rfl, rfl, rfl, rfl, rfl, rfl⟩, w2, os, az, g4, cap4, Kid1.mk' lT.out lR.out c2.out r2.out sT.out sR.out SZ.out c4.out hrow.out hblk.out B14.out B24.out⟩
   ·go_simp
    clear hHeld; refine gn hK (fun hHeld => ?_); clear hK K; have p4'' := cell_ch (al_ch w2 (.cells #[.int .i64 t.kind, .int .i64 t.num, .int .i64 t.row, os, az] 49)) p4' (fun h => h); refine rd1 1 rfl (fun K hK => ?_)
    go_simp
    clear hHeld; refine gn hK (fun hHeld => ?_); clear hK K; refine rd1 13 rfl (fun K hK => ?_); obtain ⟨v', w4, hr4, hrow, hgrow, hblk⟩ := run_append_ty (w := w2.alloc (.cells #[.int .i64 t.kind, .int .i64 t.num, .int .i64 t.row, os, az] 49)) (TyRow.nil 0 _).own (World.alloc_heap_new w2 _) r2.out.so r2.out.sa (by omega) 47; have c4 : Ch (fun _ => False) w2 w4 := (al_ch w2 _).trans (O1 := fun _ => False) (Ch.grown hgrow (fun k hk => by cases hk)) (fun _ h => h.elim); have xb4 := cell_ch c4 xb' (fun h => h); have x24 := cell_ch c4 x2' (fun h => h); have m04 := cell_ch c4 m0' (fun h => h); have m14 := cell_ch c4 m1' (fun h => h); have hS5 := And.intro xb4 (And.intro x24 (And.intro m04 m14)); have B24 := hid (c4.keeps B2'.out (fun h => h)); have B14 := hid (c4.keeps B1'.out (fun h => h)); replace hrow := own_as1 hrow; obtain ⟨g4, cap4, rfl⟩ := own_form1 hrow; replace hrow := hid hrow; replace hblk := hid hblk; replace c4 := hid c4; refine step_append_run rfl (.tmp 39) (.tmp 50) 47 rfl rfl rfl hr4 ?_; clear hr4 hgrow; clear hHeld; refine gn hK (fun hHeld => ?_); clear hK K; clear hS5; obtain ⟨⟨q0, q1, q2, q3, q4⟩, qf⟩ := ty_cells B24.out; refine tk 14 rfl ?_; refine rd1 15 rfl (fun K hK => ?_)
    go_simp
    have hS5 := set4 (Ch.setCell (O := fun j => j = w.heap.size + 1 + 1) w4 ⟨w.heap.size + 1 + 1, 4, none⟩ (.slice (some ⟨g4, 0, none⟩) 1 cap4) rfl) xb4 (by have := lb.out; omega) x24 (by have := lx.out; omega) m04 (by omega) m14 (by omega); clear hHeld; refine gn hK (fun hHeld => ?_); clear hK K; refine wpAnyH_done (by kernel_rfl) ?_ _; clear hHeld; exact ⟨⟨rfl, rfl, rfl, rfl, rfl, rfl, rfl⟩, w2, os, az, g4, cap4, Kid1.mk' lT.out lR.out c2.out r2.out sT.out sR.out SZ.out c4.out hrow.out hblk.out B14.out B24.out⟩
 case cont =>
  intro e' a' w5 hq
  cases e' with
  | normal =>
   obtain ⟨fr, w2, os, az, g4, cap4, K⟩ := hq; obtain ⟨F, rfl, f0, f1, f5, f6, f7⟩ := act_open fr
   dsimp only
   rw [f0, f1, f5, f6, f7]; clear fr f0 f1 f5 f6 f7 xb x2 m0 m1; have s2 : Hid (w.heap.size + 3 ≤ w2.heap.size) := hid (by have h1 := K.c2.size; have h2 := SZ.out; omega); have cV0 : Hid (Ch (isTR T R) w w5) := hid (((cW.out.mono (fun _ h => h.elim)).trans K.c2 (fun _ h => .inl h)).trans K.k5 (fun j hj => .inr (by omega))); have B05 := hid (K.k5.keeps (K.c2.keeps B0.out (by have := lT.out; have := lR.out; rintro (e | e) <;> omega)) (by omega)); have g4l : Hid (w2.heap.size ≤ g4) := hid (K.row.blk g4 rfl); have g4u : Hid (g4 < w5.heap.size) := hid (ownsRow_lt K.row.own rfl); have s5 : Hid (w2.heap.size ≤ w5.heap.size) := hid K.k5.size; have gV0 := h.out.tr hN.out.oT hN.out.oR cV0.out; have HW := gV0.Whole hw.out; obtain ⟨vg, vc, v1, v2, _, v4⟩ := GD.intAt gV0.gm (j := 3) (by omega) gV0.x3 (at_nat hrr.out); have vb := gV0.gm.cells.2.2.2.1; rw [v1] at vb; have vi : (ni : Int) < (d.row.length : Int) := by omega
   have vo := GM.ownv gV0.gm v1; clear v1; clear gV0 vo; obtain ⟨⟨p0, p1, p2, p3, p4⟩, pf⟩ := ty_cells K.b2; replace K := hid K
   go_upto_region 10 with (go_at_call 59; refine HW.mono ?_; clear HW; rintro e w9 ⟨u, rfl, hF⟩; obtain ⟨ua, uc, rfl, _⟩ := id (Fresh.sv hF); replace hF := hid hF)
   clear vb v2 v4 p0 p1 p2 p3 p4 pf; have B29 := hid (hF.out.2.1.keeps K.out.b2 (fun h => h)); have B19 := hid (hF.out.2.1.keeps K.out.b1 (fun h => h)); have B09 := hid (hF.out.2.1.keeps B05.out (fun h => h)); obtain ⟨⟨p0, p1, p2, p3, p4⟩, pf⟩ := ty_cells B29.out
   go_upto_region 11 with (fail)
   clear p0 p1 p2 p3 p4 pf; obtain ⟨w10, e10⟩ : ∃ w10, w10 = w9.setCell ⟨w.heap.size + 1 + 1, 3, none⟩ (.slice ua l.length uc) := ⟨_, rfl⟩; rw [← e10]; have k10 : Ch (fun j => j = w.heap.size + 1 + 1) w9 w10 := by rw [e10]; exact Ch.setCell _ _ _ rfl
   have B210 : w10.heap[w.heap.size + 1 + 1]? = some (tyB 6 0 0 (.slice ua l.length uc) (.slice (some ⟨g4, 0, none⟩) 1 cap4)) := by rw [e10]; exact ty_set B29.out rfl
   clear e10; have s9 : Hid (w5.heap.size ≤ w9.heap.size) := hid hF.out.2.1.size; have k510 : Hid (Ch (fun j => j = w.heap.size + 1 + 1) w5 w10) := hid ((hF.out.2.1.mono (fun _ h => h.elim)).trans k10 (fun _ h => .inl h)); have B010 := hid (k10.keeps B09.out (by omega)); have B110 := hid (k10.keeps B19.out (by omega)); have hub : Hid (∀ k, (Value.slice ua l.length uc).ownBlock = some k → w5.heap.size ≤ k) := hid hF.out.2.2; have u10 : Hid (w10.ownsRow 0 9 1 (.slice ua l.length uc) l.length (strs l)) := hid (ownsRow_keep hF.out.1 (fun k hk => k10.same k (ownsRow_lt hF.out.1 hk) (by have h1 := hF.out.2.2 k hk; have := s2.out; have := s5.out; omega))); have sR10 : Hid (MI w10 R N1.2) := hid (K.out.sR.keep (k510.out.same R K.out.sR.lt (by have := lR.out; omega))); have sT10 : Hid (MI w10 T N1.1) := hid (K.out.sT.keep (k510.out.same T K.out.sT.lt (by have := lT.out; omega))); have row10 : Hid (TyRow w2.heap.size w10 (.slice (some ⟨g4, 0, none⟩) 1 cap4) 1 (tyC t.kind t.num t.row os az)) := hid (K.out.row.ch k510.out (fun k hk e => by have h1 := K.out.row.blk k hk; have := s2.out; omega)); have cV10 : Hid (Ch (isTR T R) w w10) := hid (cV0.out.trans k510.out (fun j hj => .inr (by omega))); have hV10 : Hid (Ch (fun j => isTR T R j ∨ j = w.heap.size + 1 + 1) w2 w10) := hid ((K.out.k5.mono (fun _ h => .inr h)).trans k510.out (fun j h => .inl (.inr h))); have c2 := hid K.out.c2; have r2 := hid K.out.r2; have s10 : Hid (w9.heap.size ≤ w10.heap.size) := hid k10.size; replace k10 := hid k10; clear hF B29 B19 B09 B05 cV0 K; obtain ⟨⟨p0, p1, p2, p3, p4⟩, pf⟩ := ty_cells B210
   go_upto_region 13 with (fail)
   clear p0 p1 p2 p3 p4 pf; obtain ⟨V, eV⟩ : ∃ V, V = w10 := ⟨_, rfl⟩; subst eV; have B2V := hid B210; have B1V := B110; have B0V := B010; have sTV := sT10; have sRV := sR10; have rowV := row10; have cV := cV10; have hV := hV10; have uV := u10; have sV : Hid (w5.heap.size ≤ V.heap.size) := hid (by have := s9.out; have := s10.out; omega); clear B210; have lb := lb; have gV := h.out.tr hN.out.oT hN.out.oR cV.out; have nV : Nm2 V b G T R N1 := ⟨hN.out.oT, hN.out.oR, hN.out.ne, sTV.out, sRV.out⟩; obtain ⟨yg, yc, y1, y2, _, y4⟩ := GD.intAt gV.gm (j := 2) (by omega) gV.x2 (at_nat hc.out); have yb := gV.gm.cells.2.2.1; rw [y1] at yb; have yi : (ni : Int) < (d.b.length : Int) := by omega
   have yo := GM.ownv gV.gm y1; clear y1; have ny := hid (nTR hN.out.oT hN.out.oR yo); have ly := hid (h.out.gm.lt yo)
   have HT2 : Hid (∀ w', Ch (fun _ => False) V w' → Calls Try.prog 32 #[.pointer (some ⟨b, 0, none⟩), .int .i64 c, .agg #[.map (some T), .map (some R)]] w' fun e w6 => ∃ os az, e = .returned (tyV t2.kind t2.num t2.row os az) ∧ Rb V.heap.size w6 t2 os az ∧ MI w6 T N2.1 ∧ MI w6 R N2.2 ∧ Ch (isTR T R) V w6) := hid fun w' hc' => (ih.out (gV.quiet hc') (nV.keep hc' (fun h => h) (fun h => h)) hp2.out).mono (by
    rintro e w6 ⟨os, az, rfl, r6, sT, sR, c6⟩
    exact ⟨os, az, rfl, r6.le hc'.size, sT, sR, (hc'.mono (fun _ h => h.elim)).trans c6 (fun _ h => .inl h)⟩)
   clear gV nV yo; have m0 : V.cell? ⟨w.heap.size, 0, none⟩ = some (.map (some T)) := by unfold World.cell?; rw [B0V.out]; rfl
   have m1 : V.cell? ⟨w.heap.size, 1, none⟩ = some (.map (some R)) := by unfold World.cell?; rw [B0V.out]; rfl
   obtain ⟨⟨p0, p1, p2, p3, p4⟩, pf⟩ := ty_cells B2V.out
   go_upto_region 14 with (fail)
   refine wp_region_held_drew (S := (fun w' => w'.cell? ⟨b, 2, none⟩ = some (.slice (some ⟨yg, 0, none⟩) d.b.length yc) ∧ w'.cell? ⟨yg, ni, none⟩ = some (.int .i64 c) ∧ w'.cell? ⟨w.heap.size, 0, none⟩ = some (.map (some T)) ∧ w'.cell? ⟨w.heap.size, 1, none⟩ = some (.map (some R)))) (by kernel_rfl) (by first | trivial | ((try dsimp only); go_keep)) (fun hHeld => ?_); refine tk 0 rfl ?_ (hw := by simp [Region.wanted, yielded]); refine tk 2 rfl ?_ (hw := by simp [Region.wanted, yielded]); refine tk 3 rfl ?_ (hw := by simp [Region.wanted, yielded]); refine tk 4 rfl ?_ (hw := by simp [Region.wanted, yielded]); refine tk 5 rfl ?_ (hw := by simp [Region.wanted, yielded]); refine tk 6 rfl ?_ (hw := by simp [Region.wanted, yielded]); refine tk 7 rfl ?_ (hw := by simp [Region.wanted, yielded]); refine tk 8 rfl ?_ (hw := by simp [Region.wanted, yielded]); refine tk 9 rfl ?_ (hw := by simp [Region.wanted, yielded]); refine tk 10 rfl ?_ (hw := by simp [Region.wanted, yielded]); refine rd2 1 11 rfl (fun K hK => ?_) rfl (fun K hK => ?_)
   ·go_simp
    clear hHeld; refine gn hK (fun hHeld => ?_); clear hK K; refine rd1 11 rfl (fun K hK => ?_)
    go_simp
    refine (HT2.out V.drew ⟨Nat.le_refl _, fun _ _ _ => rfl, rfl, rfl⟩).mono ?_; rintro e w6 ⟨os2, az2, rfl, r6, sT6, sR6, c6⟩; have yb' := cell_ch c6 yb nb.out; have y2' := cell_ch c6 y2 ny.out; have m0' := cell_ch c6 m0 (by have := lT.out; have := lR.out; rintro (e | e) <;> omega); have m1' := cell_ch c6 m1 (by have := lT.out; have := lR.out; rintro (e | e) <;> omega); have B26 := hid (c6.keeps B2V.out (by have := lT.out; have := lR.out; rintro (e | e) <;> omega)); have B16 := hid (c6.keeps B1V.out (by have := lT.out; have := lR.out; rintro (e | e) <;> omega))
    have row6 := hid (TyRow.ch rowV.out c6 (fun k hk e => by
     have h1 := rowV.out.blk k hk; have h2 := lT.out; have h3 := lR.out; have h4 := s2.out
     rcases e with e | e <;> omega))
    obtain ⟨⟨p0', p1', p2', p3', p4'⟩, pf'⟩ := ty_cells B26.out; replace c6 := hid c6; replace r6 := hid r6; replace sT6 := hid sT6; replace sR6 := hid sR6
    dsimp only
    clear hHeld; refine gn hK (fun hHeld => ?_); clear hK K; refine rd1 12 rfl (fun K hK => ?_)
    go_simp
    clear hHeld; refine gn hK (fun hHeld => ?_); clear hK K; refine rd1 13 rfl (fun K hK => ?_); obtain ⟨v', w7, hr7, hrow7, hgrow, hblk7⟩ := run_append_ty (w := w6.alloc (.cells #[.int .i64 t2.kind, .int .i64 t2.num, .int .i64 t2.row, os2, az2] 49)) (TyRow.ch row6.out (al_ch w6 (.cells #[.int .i64 t2.kind, .int .i64 t2.num, .int .i64 t2.row, os2, az2] 49)) (fun _ _ h => h)).own (World.alloc_heap_new w6 _) r6.out.so r6.out.sa (by omega) 47; have c7 : Ch (fun j => j = g4) w6 w7 := ((al_ch w6 (.cells #[.int .i64 t2.kind, .int .i64 t2.num, .int .i64 t2.row, os2, az2] 49)).mono (fun _ h => h.elim)).trans (O1 := fun j => j = g4) (Ch.grown hgrow (fun k hk => (Option.some.inj hk).symm)) (fun _ h => .inl h); have yb4 := cell_ch c7 yb' (by have := lb.out; have := ly.out; have := g4l.out; have := s2.out; omega); have y24 := cell_ch c7 y2' (by have := lb.out; have := ly.out; have := g4l.out; have := s2.out; omega); have m04 := cell_ch c7 m0' (by have := lb.out; have := ly.out; have := g4l.out; have := s2.out; omega); have m14 := cell_ch c7 m1' (by have := lb.out; have := ly.out; have := g4l.out; have := s2.out; omega); have hS5 := And.intro yb4 (And.intro y24 (And.intro m04 m14)); have B27 := hid (c7.keeps B26.out (by have := lb.out; have := ly.out; have := g4l.out; have := s2.out; omega)); have B17 := hid (c7.keeps B16.out (by have := lb.out; have := ly.out; have := g4l.out; have := s2.out; omega)); replace hrow7 := own_as2 hrow7; obtain ⟨g8, cap8, rfl⟩ := own_form2 hrow7; replace hrow7 := hid hrow7; replace hblk7 := hid hblk7; replace c7 := hid c7; refine step_append_run rfl (.tmp 86) (.tmp 97) 47 rfl (by simp [Act.eval]) (by simp [Act.eval]) hr7 ?_; clear hr7 hgrow; clear hHeld; refine gn hK (fun hHeld => ?_); clear hK K; clear hS5; obtain ⟨⟨q0, q1, q2, q3, q4⟩, qf⟩ := ty_cells B27.out; refine tk 14 rfl ?_ (hw := by simp [Region.wanted, yielded]); refine rd1 15 rfl (fun K hK => ?_)
    go_simp
    have hS5 := set4 (Ch.setCell (O := fun j => j = w.heap.size + 1 + 1) w7 ⟨w.heap.size + 1 + 1, 4, none⟩ (.slice (some ⟨g8, 0, none⟩) 2 cap8) rfl) yb4 (by have := lb.out; omega) y24 (by have := ly.out; omega) m04 (by omega) m14 (by omega); clear hHeld; refine gn hK (fun hHeld => ?_); clear hK K; refine wpAnyH_done (by kernel_rfl) ?_ _; clear hHeld; obtain ⟨w8, e8⟩ : ∃ w8, w8 = w7.setCell ⟨w.heap.size + 1 + 1, 4, none⟩ (.slice (some ⟨g8, 0, none⟩) 2 cap8) := ⟨_, rfl⟩; rw [← e8]; have k8 : Ch (fun j => j = w.heap.size + 1 + 1) w7 w8 := by rw [e8]; exact Ch.setCell _ _ _ rfl
    have B28 : w8.heap[w.heap.size + 1 + 1]? = some (tyB 6 0 0 (.slice ua l.length uc) (.slice (some ⟨g8, 0, none⟩) 2 cap8)) := by rw [e8]; exact ty_set B27.out rfl
    have B18 := k8.keeps B17.out (by omega); clear e8 hS5 yb4 y24 m04 m14 yb' y2' m0' m1' p0' p1' p2' p3' p4' pf' q0 q1 q2 q3 q4 qf yb y2 m0 m1 p0 p1 p2 p3 p4 pf; obtain ⟨⟨q0, q1, q2, q3, q4⟩, qf⟩ := ty_cells B28; obtain ⟨⟨u0, u1, u2, u3, u4⟩, uf⟩ := ty_cells B18; replace B18 := hid B18; replace B28 := hid B28; replace k8 := hid k8
    go_wp2
    have fin := fin2_core (w := w) lT.out lR.out rfl SZ.out c2.out r2.out hV.out rowV.out cV.out c6.out r6.out sT6.out sR6.out c7.out hrow7.out hblk7.out k8.out (set5_ch (Ch.refl _ _) (k := 6) (n := 0) (r := 0) (os := .slice ua l.length uc) (az := .slice (some ⟨g8, 0, none⟩) 2 cap8) (.inl rfl)); obtain ⟨f1, f2, f3, f4, f5, f6, k6⟩ := fin; have u6 := ownsRow_keep (ownsRow_keep uV.out (fun k hk => c6.out.same k (ownsRow_lt uV.out hk) (by have h1 := hub.out k hk; have := s2.out; have := s5.out; have := lT.out; have := lR.out; rintro (e | e) <;> omega))) (fun k hk => k6.same k (Nat.lt_of_lt_of_le (ownsRow_lt uV.out hk) c6.out.size) (by have h1 := hub.out k hk; have := s2.out; have := s5.out; have := g4u.out; omega)); exact Told_ret rfl rfl (set5_blk B18.out) ⟨_, _, rfl, Rb.fn u6 (fun k hk => by have h1 := hub.out k hk; have := s2.out; have := s5.out; omega) f1 f2 f3, f4, f5, f6⟩
   ·go_simp
    refine (HT2.out V.drew ⟨Nat.le_refl _, fun _ _ _ => rfl, rfl, rfl⟩).mono ?_; rintro e w6 ⟨os2, az2, rfl, r6, sT6, sR6, c6⟩; have yb' := cell_ch c6 yb nb.out; have y2' := cell_ch c6 y2 ny.out; have m0' := cell_ch c6 m0 (by have := lT.out; have := lR.out; rintro (e | e) <;> omega); have m1' := cell_ch c6 m1 (by have := lT.out; have := lR.out; rintro (e | e) <;> omega); have B26 := hid (c6.keeps B2V.out (by have := lT.out; have := lR.out; rintro (e | e) <;> omega)); have B16 := hid (c6.keeps B1V.out (by have := lT.out; have := lR.out; rintro (e | e) <;> omega))
    have row6 := hid (TyRow.ch rowV.out c6 (fun k hk e => by
     have h1 := rowV.out.blk k hk; have h2 := lT.out; have h3 := lR.out; have h4 := s2.out
     rcases e with e | e <;> omega))
    obtain ⟨⟨p0', p1', p2', p3', p4'⟩, pf'⟩ := ty_cells B26.out; replace c6 := hid c6; replace r6 := hid r6; replace sT6 := hid sT6; replace sR6 := hid sR6
    dsimp only
    clear hHeld; refine gn hK (fun hHeld => ?_); clear hK K; refine rd2 1 12 rfl (fun K hK => ?_) rfl (fun K hK => ?_)
    ·go_simp
     clear hHeld; refine gn hK (fun hHeld => ?_); clear hK K; refine rd1 12 rfl (fun K hK => ?_)
     go_simp
     clear hHeld; refine gn hK (fun hHeld => ?_); clear hK K; refine rd1 13 rfl (fun K hK => ?_); obtain ⟨v', w7, hr7, hrow7, hgrow, hblk7⟩ := run_append_ty (w := w6.alloc (.cells #[.int .i64 t2.kind, .int .i64 t2.num, .int .i64 t2.row, os2, az2] 49)) (TyRow.ch row6.out (al_ch w6 (.cells #[.int .i64 t2.kind, .int .i64 t2.num, .int .i64 t2.row, os2, az2] 49)) (fun _ _ h => h)).own (World.alloc_heap_new w6 _) r6.out.so r6.out.sa (by omega) 47; have c7 : Ch (fun j => j = g4) w6 w7 := ((al_ch w6 (.cells #[.int .i64 t2.kind, .int .i64 t2.num, .int .i64 t2.row, os2, az2] 49)).mono (fun _ h => h.elim)).trans (O1 := fun j => j = g4) (Ch.grown hgrow (fun k hk => (Option.some.inj hk).symm)) (fun _ h => .inl h); have yb4 := cell_ch c7 yb' (by have := lb.out; have := ly.out; have := g4l.out; have := s2.out; omega); have y24 := cell_ch c7 y2' (by have := lb.out; have := ly.out; have := g4l.out; have := s2.out; omega); have m04 := cell_ch c7 m0' (by have := lb.out; have := ly.out; have := g4l.out; have := s2.out; omega); have m14 := cell_ch c7 m1' (by have := lb.out; have := ly.out; have := g4l.out; have := s2.out; omega); have hS5 := And.intro yb4 (And.intro y24 (And.intro m04 m14)); have B27 := hid (c7.keeps B26.out (by have := lb.out; have := ly.out; have := g4l.out; have := s2.out; omega)); have B17 := hid (c7.keeps B16.out (by have := lb.out; have := ly.out; have := g4l.out; have := s2.out; omega)); replace hrow7 := own_as2 hrow7; obtain ⟨g8, cap8, rfl⟩ := own_form2 hrow7; replace hrow7 := hid hrow7; replace hblk7 := hid hblk7; replace c7 := hid c7; refine step_append_run rfl (.tmp 86) (.tmp 97) 47 rfl (by simp [Act.eval]) (by simp [Act.eval]) hr7 ?_; clear hr7 hgrow; clear hHeld; refine gn hK (fun hHeld => ?_); clear hK K; clear hS5; obtain ⟨⟨q0, q1, q2, q3, q4⟩, qf⟩ := ty_cells B27.out; refine tk 14 rfl ?_ (hw := by simp [Region.wanted, yielded]); refine rd1 15 rfl (fun K hK => ?_)
     go_simp
     have hS5 := set4 (Ch.setCell (O := fun j => j = w.heap.size + 1 + 1) w7 ⟨w.heap.size + 1 + 1, 4, none⟩ (.slice (some ⟨g8, 0, none⟩) 2 cap8) rfl) yb4 (by have := lb.out; omega) y24 (by have := ly.out; omega) m04 (by omega) m14 (by omega); clear hHeld; refine gn hK (fun hHeld => ?_); clear hK K; refine wpAnyH_done (by kernel_rfl) ?_ _; clear hHeld; obtain ⟨w8, e8⟩ : ∃ w8, w8 = w7.setCell ⟨w.heap.size + 1 + 1, 4, none⟩ (.slice (some ⟨g8, 0, none⟩) 2 cap8) := ⟨_, rfl⟩; rw [← e8]; have k8 : Ch (fun j => j = w.heap.size + 1 + 1) w7 w8 := by rw [e8]; exact Ch.setCell _ _ _ rfl
     have B28 : w8.heap[w.heap.size + 1 + 1]? = some (tyB 6 0 0 (.slice ua l.length uc) (.slice (some ⟨g8, 0, none⟩) 2 cap8)) := by rw [e8]; exact ty_set B27.out rfl
     have B18 := k8.keeps B17.out (by omega); clear e8 hS5 yb4 y24 m04 m14 yb' y2' m0' m1' p0' p1' p2' p3' p4' pf' q0 q1 q2 q3 q4 qf yb y2 m0 m1 p0 p1 p2 p3 p4 pf; obtain ⟨⟨q0, q1, q2, q3, q4⟩, qf⟩ := ty_cells B28; obtain ⟨⟨u0, u1, u2, u3, u4⟩, uf⟩ := ty_cells B18; replace B18 := hid B18; replace B28 := hid B28; replace k8 := hid k8
     go_wp2
     have fin := fin2_core (w := w) lT.out lR.out rfl SZ.out c2.out r2.out hV.out rowV.out cV.out c6.out r6.out sT6.out sR6.out c7.out hrow7.out hblk7.out k8.out (set5_ch (Ch.refl _ _) (k := 6) (n := 0) (r := 0) (os := .slice ua l.length uc) (az := .slice (some ⟨g8, 0, none⟩) 2 cap8) (.inl rfl)); obtain ⟨f1, f2, f3, f4, f5, f6, k6⟩ := fin; have u6 := ownsRow_keep (ownsRow_keep uV.out (fun k hk => c6.out.same k (ownsRow_lt uV.out hk) (by have h1 := hub.out k hk; have := s2.out; have := s5.out; have := lT.out; have := lR.out; rintro (e | e) <;> omega))) (fun k hk => k6.same k (Nat.lt_of_lt_of_le (ownsRow_lt uV.out hk) c6.out.size) (by have h1 := hub.out k hk; have := s2.out; have := s5.out; have := g4u.out; omega)); exact Told_ret rfl rfl (set5_blk B18.out) ⟨_, _, rfl, Rb.fn u6 (fun k hk => by have h1 := hub.out k hk; have := s2.out; have := s5.out; omega) f1 f2 f3, f4, f5, f6⟩
    ·go_simp
     clear hHeld; refine gn hK (fun hHeld => ?_); clear hK K; have p4'' := cell_ch (al_ch w6 (.cells #[.int .i64 t2.kind, .int .i64 t2.num, .int .i64 t2.row, os2, az2] 49)) p4' (fun h => h); refine rd1 1 rfl (fun K hK => ?_)
     go_simp
     clear hHeld; refine gn hK (fun hHeld => ?_); clear hK K; refine rd1 13 rfl (fun K hK => ?_); obtain ⟨v', w7, hr7, hrow7, hgrow, hblk7⟩ := run_append_ty (w := w6.alloc (.cells #[.int .i64 t2.kind, .int .i64 t2.num, .int .i64 t2.row, os2, az2] 49)) (TyRow.ch row6.out (al_ch w6 (.cells #[.int .i64 t2.kind, .int .i64 t2.num, .int .i64 t2.row, os2, az2] 49)) (fun _ _ h => h)).own (World.alloc_heap_new w6 _) r6.out.so r6.out.sa (by omega) 47; have c7 : Ch (fun j => j = g4) w6 w7 := ((al_ch w6 (.cells #[.int .i64 t2.kind, .int .i64 t2.num, .int .i64 t2.row, os2, az2] 49)).mono (fun _ h => h.elim)).trans (O1 := fun j => j = g4) (Ch.grown hgrow (fun k hk => (Option.some.inj hk).symm)) (fun _ h => .inl h); have yb4 := cell_ch c7 yb' (by have := lb.out; have := ly.out; have := g4l.out; have := s2.out; omega); have y24 := cell_ch c7 y2' (by have := lb.out; have := ly.out; have := g4l.out; have := s2.out; omega); have m04 := cell_ch c7 m0' (by have := lb.out; have := ly.out; have := g4l.out; have := s2.out; omega); have m14 := cell_ch c7 m1' (by have := lb.out; have := ly.out; have := g4l.out; have := s2.out; omega); have hS5 := And.intro yb4 (And.intro y24 (And.intro m04 m14)); have B27 := hid (c7.keeps B26.out (by have := lb.out; have := ly.out; have := g4l.out; have := s2.out; omega)); have B17 := hid (c7.keeps B16.out (by have := lb.out; have := ly.out; have := g4l.out; have := s2.out; omega)); replace hrow7 := own_as2 hrow7; obtain ⟨g8, cap8, rfl⟩ := own_form2 hrow7; replace hrow7 := hid hrow7; replace hblk7 := hid hblk7; replace c7 := hid c7; refine step_append_run rfl (.tmp 86) (.tmp 97) 47 rfl (by simp [Act.eval]) (by simp [Act.eval]) hr7 ?_; clear hr7 hgrow; clear hHeld; refine gn hK (fun hHeld => ?_); clear hK K; clear hS5; obtain ⟨⟨q0, q1, q2, q3, q4⟩, qf⟩ := ty_cells B27.out; refine tk 14 rfl ?_ (hw := by simp [Region.wanted, yielded]); refine rd1 15 rfl (fun K hK => ?_)
     go_simp
     have hS5 := set4 (Ch.setCell (O := fun j => j = w.heap.size + 1 + 1) w7 ⟨w.heap.size + 1 + 1, 4, none⟩ (.slice (some ⟨g8, 0, none⟩) 2 cap8) rfl) yb4 (by have := lb.out; omega) y24 (by have := ly.out; omega) m04 (by omega) m14 (by omega); clear hHeld; refine gn hK (fun hHeld => ?_); clear hK K; refine wpAnyH_done (by kernel_rfl) ?_ _; clear hHeld; obtain ⟨w8, e8⟩ : ∃ w8, w8 = w7.setCell ⟨w.heap.size + 1 + 1, 4, none⟩ (.slice (some ⟨g8, 0, none⟩) 2 cap8) := ⟨_, rfl⟩; rw [← e8]; have k8 : Ch (fun j => j = w.heap.size + 1 + 1) w7 w8 := by rw [e8]; exact Ch.setCell _ _ _ rfl
     have B28 : w8.heap[w.heap.size + 1 + 1]? = some (tyB 6 0 0 (.slice ua l.length uc) (.slice (some ⟨g8, 0, none⟩) 2 cap8)) := by rw [e8]; exact ty_set B27.out rfl
     have B18 := k8.keeps B17.out (by omega); clear e8 hS5 yb4 y24 m04 m14 yb' y2' m0' m1' p0' p1' p2' p3' p4' pf' q0 q1 q2 q3 q4 qf yb y2 m0 m1 p0 p1 p2 p3 p4 pf; obtain ⟨⟨q0, q1, q2, q3, q4⟩, qf⟩ := ty_cells B28; obtain ⟨⟨u0, u1, u2, u3, u4⟩, uf⟩ := ty_cells B18; replace B18 := hid B18; replace B28 := hid B28; replace k8 := hid k8
     go_wp2
     have fin := fin2_core (w := w) lT.out lR.out rfl SZ.out c2.out r2.out hV.out rowV.out cV.out c6.out r6.out sT6.out sR6.out c7.out hrow7.out hblk7.out k8.out (set5_ch (Ch.refl _ _) (k := 6) (n := 0) (r := 0) (os := .slice ua l.length uc) (az := .slice (some ⟨g8, 0, none⟩) 2 cap8) (.inl rfl)); obtain ⟨f1, f2, f3, f4, f5, f6, k6⟩ := fin; have u6 := ownsRow_keep (ownsRow_keep uV.out (fun k hk => c6.out.same k (ownsRow_lt uV.out hk) (by have h1 := hub.out k hk; have := s2.out; have := s5.out; have := lT.out; have := lR.out; rintro (e | e) <;> omega))) (fun k hk => k6.same k (Nat.lt_of_lt_of_le (ownsRow_lt uV.out hk) c6.out.size) (by have h1 := hub.out k hk; have := s2.out; have := s5.out; have := g4u.out; omega)); exact Told_ret rfl rfl (set5_blk B18.out) ⟨_, _, rfl, Rb.fn u6 (fun k hk => by have h1 := hub.out k hk; have := s2.out; have := s5.out; omega) f1 f2 f3, f4, f5, f6⟩
  | _ => exact hq.elim
end Go.Proofs.Ytejciampbnfbhaa
