/-
  The program's Write: pairs.
-/
import Derived.Test.YtficijneelpmcaaGreatMVs
import Derived.Deep.RegionHeld3
set_option linter.unusedVariables false
set_option linter.unusedSimpArgs false
namespace Go.Proofs.YtficijneelpmcaaGreat
open Go.RowKit
open Un (Bag Nm Gr)
variable {F : Nat → Prop}

/-- A node's two kids, as the program reads them. -/
structure Kd (w : World) (pb g o c ka kb : Nat) : Prop where
  s : w.cell? ⟨pb, 1, none⟩ = some (.slice (some ⟨g, o, none⟩) 2 c) ∧ w.cell? ⟨g, o, none⟩ = some (.pointer (some ⟨ka, 0, none⟩)) ∧ w.cell? ⟨g, o + 1, none⟩ = some (.pointer (some ⟨kb, 0, none⟩))
  t : ∃ cs fr, w.heap[g]? = some (.cells cs 61 fr)
theorem Kd.turn {w w' : World} {G : Gr} {X : Gx} {wB mT mR : Nat} {N : Gr.Nms} {g o c ka kb i : Nat} (h : Kd w (X.pi (X.root i)) g o c ka kb) (hm : WrM w G X F wB mT mR N) (hi : i < G.n) (hc : Ch (ownW X G.n mT mR) w w') (hst : Stay G X w w') : Kd w' (X.pi (X.root i)) g o c ka kb := by
  obtain ⟨cs, fr, ht⟩ := h.t
  have hl := (Array.getElem?_eq_some_iff.1 ht).1
  have hno : ¬ ownW X G.n mT mR g := by
    rintro (e | e | e)
    · rcases hm.pg.tg g _ _ _ e ht with e | e <;> exact absurd e (by decide)
    · obtain ⟨es, c, hb, _⟩ := hm.mt
      rw [← e, ht] at hb
      cases hb
    · obtain ⟨es, c, hb, _⟩ := hm.mr
      rw [← e, ht] at hb
      cases hb
  exact ⟨⟨(hst _ (hm.pg.root_lt i hi) 1 (by decide)).trans h.s.1, (hc.cell (p := ⟨g, o, none⟩) hl hno).trans h.s.2.1, (hc.cell (p := ⟨g, o + 1, none⟩) hl hno).trans h.s.2.2⟩, ⟨cs, fr, (hc.same g hl hno).trans ht⟩⟩
theorem Kd.quiet {w w' : World} {pb g o c ka kb : Nat} (h : Kd w pb g o c ka kb) (hc : Ch (fun _ => False) w w') : Kd w' pb g o c ka kb := by
  obtain ⟨cs, fr, ht⟩ := h.t
  exact ⟨⟨cell_ch hc h.s.1 (fun h => h), cell_ch hc h.s.2.1 (fun h => h), cell_ch hc h.s.2.2 (fun h => h)⟩, ⟨cs, fr, (hc.same g (Array.getElem?_eq_some_iff.1 ht).1 (fun h => h)).trans ht⟩⟩
theorem Kd.al {w : World} {pb g o c ka kb : Nat} (h : Kd w pb g o c ka kb) (ob : Obj) : Kd (w.alloc ob) pb g o c ka kb := h.quiet (al_ch w ob)
theorem Kd.put {w : World} {G : Gr} {X : Gx} {g o c ka kb i0 x i : Nat} {v : Value} {cs : Array Value} {T : TypeId} {fr : Nat × Nat} (h : Kd w (X.pi (X.root i0)) g o c ka kb) (hx : w.heap[x]? = some (.cells cs T fr)) (hT : T ≠ 61) (hF : F x) (hp : PG w G X F) (hi : i0 < G.n) : Kd (w.setCell ⟨x, i, none⟩ v) (X.pi (X.root i0)) g o c ka kb := by
  obtain ⟨cs', fr', ht⟩ := h.t
  have h1 : g ≠ x := fun e => by
    rw [e, hx] at ht
    cases ht
    exact hT rfl
  have h2 : X.pi (X.root i0) ≠ x := fun e => hp.own_F (.inl ⟨_, hp.root_lt i0 hi, e⟩) hF
  have hc : Ch (fun k => k = x) w (w.setCell ⟨x, i, none⟩ v) := Ch.setCell w ⟨x, i, none⟩ v rfl
  exact ⟨⟨cell_ch hc h.s.1 h2, cell_ch hc h.s.2.1 h1, cell_ch hc h.s.2.2 h1⟩, ⟨cs', fr', (hc.same g (Array.getElem?_eq_some_iff.1 ht).1 h1).trans ht⟩⟩

set_option maxRecDepth 100000 in
set_option maxHeartbeats 8000000 in
theorem Write_pair {w : World} {G : Gr} {X : Gx} {wB mT mR i k : Nat} (ih : WrOK G X wB mT mR k) {N N1 N2 : Gr.Nms} {ta tb : Ty.P} (hG : G.OK) (h : WrM w G X F wB mT mR N) (hi : i < G.n) (hk : G.kind (G.rep i) = 5) (ha : G.told k ((G.kids (G.rep i)).getD 0 0) N = some (ta, N1)) (hb : G.told k ((G.kids (G.rep i)).getD 1 0) N1 = some (tb, N2)) (hn : N.t.length + N.r.length + (ta.parts + tb.parts) < 1000000000) :
    Calls Tryz.prog 24 #[.pointer (some ⟨wB, 0, none⟩), .pointer (some ⟨X.pi i, 0, none⟩)] w fun e w' => WrP G X F wB mT mR N2 (.pair ta tb) w e w' := by
  have HN := Now_stay _ G X i (h.pg.grow (al_ch w (ty0 0))) hi
  have hlen : Hid (N1.t.length + N1.r.length + tb.parts < 1000000000) := by
    have := Un.Gr.told_len G _ _ _ _ _ ha
    show _ < _
    omega
  replace h := hid h
  replace hk := hid hk
  go_enter Tryz.func24, Tryz.ntmps24
  go_upto_region 3 with (go_at_call 40; refine HN.mono ?_; clear HN; rintro e w1 ⟨rfl, hp1, hc1, ht9⟩; have c0 := kind_cell hG hp1 hi hk.out; obtain ⟨F2, hs⟩ := Wst.start h.out hp1 hc1 ht9 ((5 : Nat) : Int); replace hs := hid hs; clear hp1 hc1 ht9)
  clear c0
  have c0 := kind_cell hG hs.out.wm.pg hi hk.out
  obtain ⟨g, o, c, c1, hcc, hgt⟩ := kid_cells hG hs.out.wm.pg hi (by rw [hk.out]; decide) (n := 2) (by rw [hk.out]; rfl) (by decide)
  obtain ⟨d0, hkan⟩ := hcc 0 (by decide)
  obtain ⟨d1, hkbn⟩ := hcc 1 (by decide)
  rw [Nat.add_zero] at d0
  generalize (G.kids (G.rep i)).getD 0 0 = ka at *
  generalize (G.kids (G.rep i)).getD 1 0 = kb at *
  have hkd : Kd _ (X.pi (X.root i)) g o c (X.pi ka) (X.pi kb) := ⟨⟨c1, d0, d1⟩, hgt g rfl⟩
  clear hcc d0 d1 c1 hgt
  replace hkd := hid hkd
  generalize w1.alloc (tyB ((5 : Nat) : Int) 0 0 (.slice none 0 0) (.slice none 0 0)) = W0 at *
  generalize w1.heap.size = x5 at *
  have hx5 := hid hs.out.x5
  go_upto_region 9 with (fail)
  have hcd := Ch.drew (fun _ => False) W0
  have hs' := hs.out.quiet hcd
  have hkd' := hkd.out.quiet hcd
  have hxw : x5 < W0.drew.heap.size := hs'.x5
  have HT := ih hs'.wm hkan ha (by omega)
  clear hs hkd c0 hx5 hcd
  have hs := hid hs'
  have hkd := hid hkd'
  have hS0 := hkd'.s
  clear hs' hkd'
  replace hb := hid hb
  replace ha := hid ha
  refine wp_region_held_drew (S := (fun w' => w'.cell? ⟨X.pi (X.root i), 1, none⟩ = some (.slice (some ⟨g, o, none⟩) 2 c) ∧ w'.cell? ⟨g, o, none⟩ = some (.pointer (some ⟨X.pi ka, 0, none⟩)) ∧ w'.cell? ⟨g, o + 1, none⟩ = some (.pointer (some ⟨X.pi kb, 0, none⟩)))) (by kernel_rfl) (by first | trivial | ((try dsimp only); go_keep)) (fun hHeld => ?_)
  refine wpAnyH_take (i := 0) (v := ?vvu1) rfl (by kernel_rfl) (by kernel_rfl) (by kernel_rfl) (fun _ _ _ h => h) (Or.inl ⟨by rfl, ?yyu1⟩) (by assumption) ?rru1
  case yyu1 => (intro w' hSw; (try dsimp only at hSw); go_simp; (try with_reducible rfl))
  try simp only [Act.put, List.setIfInBounds_toArray, List.set_cons_zero, List.set_cons_succ]
  refine wpAnyH_take (i := 1) (v := ?vvu2) rfl (by kernel_rfl) (by kernel_rfl) (by kernel_rfl) (fun _ _ _ h => h) (Or.inl ⟨by rfl, ?yyu2⟩) (by assumption) ?rru2
  case yyu2 => (intro w' hSw; (try dsimp only at hSw); go_simp; (try with_reducible rfl))
  try simp only [Act.put, List.setIfInBounds_toArray, List.set_cons_zero, List.set_cons_succ]
  refine wpAnyH_take (i := 2) (v := ?vvu3) rfl (by kernel_rfl) (by kernel_rfl) (by kernel_rfl) (fun _ _ _ h => h) (Or.inl ⟨by rfl, ?yyu3⟩) (by assumption) ?rru3
  case yyu3 => (intro w' hSw; (try dsimp only at hSw); go_simp; (try with_reducible rfl))
  try simp only [Act.put, List.setIfInBounds_toArray, List.set_cons_zero, List.set_cons_succ]
  refine wpAnyH_take (i := 3) (v := ?vvu4) rfl (by kernel_rfl) (by kernel_rfl) (by kernel_rfl) (fun _ _ _ h => h) (Or.inl ⟨by rfl, ?yyu4⟩) (by assumption) ?rru4
  case yyu4 => (intro w' hSw; (try dsimp only at hSw); go_simp; (try with_reducible rfl))
  try simp only [Act.put, List.setIfInBounds_toArray, List.set_cons_zero, List.set_cons_succ]
  refine wpAnyH_take (i := 4) (v := ?vvu5) rfl (by kernel_rfl) (by kernel_rfl) (by kernel_rfl) (fun _ _ _ h => h) (Or.inl ⟨by rfl, ?yyu5⟩) (by assumption) ?rru5
  case yyu5 => (intro w' hSw; (try dsimp only at hSw); go_simp; (try with_reducible rfl))
  try simp only [Act.put, List.setIfInBounds_toArray, List.set_cons_zero, List.set_cons_succ]
  refine wpAnyH_take (i := 5) (v := ?vvu6) rfl (by kernel_rfl) (by kernel_rfl) (by kernel_rfl) (fun _ _ _ h => h) (Or.inl ⟨by rfl, ?yyu6⟩) (by assumption) ?rru6
  case yyu6 => (intro w' hSw; (try dsimp only at hSw); go_simp; (try with_reducible rfl))
  try simp only [Act.put, List.setIfInBounds_toArray, List.set_cons_zero, List.set_cons_succ]
  refine wpAnyH_take (i := 6) (v := ?vvu7) rfl (by kernel_rfl) (by kernel_rfl) (by kernel_rfl) (fun _ _ _ h => h) (Or.inl ⟨by rfl, ?yyu7⟩) (by assumption) ?rru7
  case yyu7 => (intro w' hSw; (try dsimp only at hSw); go_simp; (try with_reducible rfl))
  try simp only [Act.put, List.setIfInBounds_toArray, List.set_cons_zero, List.set_cons_succ]
  refine wpAnyH_take (i := 8) (v := ?vvu8) rfl (by kernel_rfl) (by kernel_rfl) (by kernel_rfl) (fun _ _ _ h => h) (Or.inl ⟨by rfl, ?yyu8⟩) (by assumption) ?rru8
  case yyu8 => (intro w' hSw; (try dsimp only at hSw); go_simp; (try with_reducible rfl))
  try simp only [Act.put, List.setIfInBounds_toArray, List.set_cons_zero, List.set_cons_succ]
  refine wpAnyH_take (i := 9) (v := ?vvu9) rfl (by kernel_rfl) (by kernel_rfl) (by kernel_rfl) (fun _ _ _ h => h) (Or.inl ⟨by rfl, ?yyu9⟩) (by assumption) ?rru9
  case yyu9 => (intro w' hSw; (try dsimp only at hSw); go_simp; (try with_reducible rfl))
  try simp only [Act.put, List.setIfInBounds_toArray, List.set_cons_zero, List.set_cons_succ]
  refine wpAnyH_take (i := 10) (v := ?vvu10) rfl (by kernel_rfl) (by kernel_rfl) (by kernel_rfl) (fun _ _ _ h => h) (Or.inl ⟨by rfl, ?yyu10⟩) (by assumption) ?rru10
  case yyu10 => (intro w' hSw; (try dsimp only at hSw); go_simp; (try with_reducible rfl))
  try simp only [Act.put, List.setIfInBounds_toArray, List.set_cons_zero, List.set_cons_succ]
  refine wpAnyH_take (i := 11) (v := ?vvu11) rfl (by kernel_rfl) (by kernel_rfl) (by kernel_rfl) (fun _ _ _ h => h) (Or.inl ⟨by rfl, ?yyu11⟩) (by assumption) ?rru11
  case yyu11 => (intro w' hSw; (try dsimp only at hSw); go_simp; (try with_reducible rfl))
  try simp only [Act.put, List.setIfInBounds_toArray, List.set_cons_zero, List.set_cons_succ]
  refine wpAnyH_take (i := 12) (v := ?vvu12) rfl (by kernel_rfl) (by kernel_rfl) (by kernel_rfl) (fun _ _ _ h => h) (Or.inl ⟨by rfl, ?yyu12⟩) (by assumption) ?rru12
  case yyu12 => (intro w' hSw; (try dsimp only at hSw); go_simp; (try with_reducible rfl))
  try simp only [Act.put, List.setIfInBounds_toArray, List.set_cons_zero, List.set_cons_succ]
  refine wpAnyH_take (i := 13) (v := ?vvu13) rfl (by kernel_rfl) (by kernel_rfl) (by kernel_rfl) (fun _ _ _ h => h) (Or.inl ⟨by rfl, ?yyu13⟩) (by assumption) ?rru13
  case yyu13 => (intro w' hSw; (try dsimp only at hSw); go_simp; (try with_reducible rfl))
  try simp only [Act.put, List.setIfInBounds_toArray, List.set_cons_zero, List.set_cons_succ]
  refine wpAnyH_take (i := 14) (v := ?vvu14) rfl (by kernel_rfl) (by kernel_rfl) (by kernel_rfl) (fun _ _ _ h => h) (Or.inl ⟨by rfl, ?yyu14⟩) (by assumption) ?rru14
  case yyu14 => (intro w' hSw; (try dsimp only at hSw); go_simp; (try with_reducible rfl))
  try simp only [Act.put, List.setIfInBounds_toArray, List.set_cons_zero, List.set_cons_succ]
  refine wpAnyH_ready (rs := [7]) (by kernel_rfl) (by simp) (AllReadyH.cons rfl (fun K hK => ?_) AllReadyH.nil)
  go_simp
  refine HT.mono ?_
  clear HT
  rintro e w2 ⟨os, az, rfl, hr2, hm2, hc2, ht2⟩
  obtain ⟨⟨oa, on, oc, hos⟩, ⟨aa, an, ac, haz⟩⟩ := And.intro hr2.so hr2.sa
  subst hos haz
  have hs2 := hid (hs.out.turn hm2 hc2 ht2)
  have hk2 := hid (hkd.out.turn hs.out.wm hi hc2 ht2)
  have hS5 := hk2.out.s
  have HT2 := ih hm2 hkbn hb.out (by have := hlen.out; omega)
  replace hr2 := hid hr2
  replace hc2 := hid hc2
  clear hm2 ht2
  dsimp only
  clear hHeld
  refine hK.out _ _ ?hs (fun hHeld => ?_)
  case hs => (first | exact hS5 | trivial | ((try dsimp only); go_keep) | ((try dsimp only); simp [*, World.cell?_alloc_some, World.cell?_setCell_far, World.cell?_setCell_other]))
  clear hK K
  try simp only [Act.put, List.setIfInBounds_toArray, List.set_cons_zero, List.set_cons_succ]
  refine wpAnyH_ready (rs := [15]) (by kernel_rfl) (by simp) (AllReadyH.cons rfl (fun K hK => ?_) AllReadyH.nil)
  go_simp
  refine HT2.mono ?_
  clear HT2
  rintro e w3 ⟨os3, az3, rfl, hr3, hm3, hc3, ht3⟩
  obtain ⟨⟨oa3, on3, oc3, hos⟩, ⟨aa3, an3, ac3, haz⟩⟩ := And.intro hr3.so hr3.sa
  subst hos haz
  have hs3 := hid (hs2.out.turn hm3 hc3 ht3)
  have hk3 := hid (hk2.out.turn hs2.out.wm hi hc3 ht3)
  have hS5 := hk3.out.s
  have hS6 := hS5
  have hr23 := hid (hr2.out.ch hc3 (fun k hk _ e => by have := hs.out.wm.lt e; omega))
  replace hr3 := hid hr3
  replace hc3 := hid hc3
  clear hm3 ht3
  have hs4 := hid (hs3.out.quiet (al_ch w3 (.cells #[.int .i64 ta.kind, .int .i64 ta.num, .int .i64 ta.row, .slice oa on oc, .slice aa an ac, .int .i64 tb.kind, .int .i64 tb.num, .int .i64 tb.row, .slice oa3 on3 oc3, .slice aa3 an3 ac3] 32)))
  have hk4 := hid (hk3.out.al (.cells #[.int .i64 ta.kind, .int .i64 ta.num, .int .i64 ta.row, .slice oa on oc, .slice aa an ac, .int .i64 tb.kind, .int .i64 tb.num, .int .i64 tb.row, .slice oa3 on3 oc3, .slice aa3 an3 ac3] 32))
  dsimp only
  clear hHeld
  refine hK.out _ _ ?hs (fun hHeld => ?_)
  case hs => (first | exact hS5 | trivial | ((try dsimp only); go_keep) | ((try dsimp only); simp [*, World.cell?_alloc_some, World.cell?_setCell_far, World.cell?_setCell_other]))
  clear hK K
  try simp only [Act.put, List.setIfInBounds_toArray, List.set_cons_zero, List.set_cons_succ]
  refine wpAnyH_ready (rs := [16]) (by kernel_rfl) (by simp) (AllReadyH.cons rfl (fun K hK => ?_) AllReadyH.nil)
  go_simp
  have hS5 := hk4.out.s
  have hS7 := hS5
  obtain ⟨⟨p0, p1, p2, p3, p4⟩, pf⟩ := ty_cells hs4.out.b5
  clear hHeld
  refine hK.out _ _ ?hs (fun hHeld => ?_)
  case hs => (first | exact hS5 | trivial | ((try dsimp only); go_keep) | ((try dsimp only); simp [*, World.cell?_alloc_some, World.cell?_setCell_far, World.cell?_setCell_other]))
  clear hK K
  try simp only [Act.put, List.setIfInBounds_toArray, List.set_cons_zero, List.set_cons_succ]
  refine wpAnyH_take (i := 17) (v := ?vvu15) rfl (by kernel_rfl) (by kernel_rfl) (by kernel_rfl) (fun _ _ _ h => h) (Or.inl ⟨by rfl, ?yyu15⟩) (by assumption) ?rru15
  case yyu15 => (intro w' hSw; (try dsimp only at hSw); go_simp; (try with_reducible rfl))
  try simp only [Act.put, List.setIfInBounds_toArray, List.set_cons_zero, List.set_cons_succ]
  refine wpAnyH_ready (rs := [18]) (by kernel_rfl) (by simp) (AllReadyH.cons rfl (fun K hK => ?_) AllReadyH.nil)
  go_simp
  have hS5 := (hk4.out.put (x := x5) (i := 4) (v := .slice (some ⟨w3.heap.size, 0, none⟩) 2 2) hs4.out.b5 (by decide) hs4.out.f5 hs4.out.wm.pg hi).s
  clear hHeld
  refine hK.out _ _ ?hs (fun hHeld => ?_)
  case hs => (first | exact hS5 | trivial | ((try dsimp only); go_keep) | ((try dsimp only); simp [*, World.cell?_alloc_some, World.cell?_setCell_far, World.cell?_setCell_other]))
  clear hK K
  try simp only [Act.put, List.setIfInBounds_toArray, List.set_cons_zero, List.set_cons_succ]
  refine wpAnyH_done (by kernel_rfl) ?_ _
  clear hHeld
  clear hS0 hS5 hS6 hS7 p0 p1 p2 p3 p4 pf
  have hs5 := hid (hs4.out.put (i := 4) (v := .slice (some ⟨w3.heap.size, 0, none⟩) 2 2) (az' := .slice (some ⟨w3.heap.size, 0, none⟩) 2 2) rfl)
  have sz2 := hc2.out.size
  have sz3 := hc3.out.size
  have hl := hs.out.lt
  have cs : Ch (fun k => k = x5) (w3.alloc (.cells (tyC ta.kind ta.num ta.row (.slice oa on oc) (.slice aa an ac) ++ tyC tb.kind tb.num tb.row (.slice oa3 on3 oc3) (.slice aa3 an3 ac3)).toArray 32)) ((w3.alloc (.cells (tyC ta.kind ta.num ta.row (.slice oa on oc) (.slice aa an ac) ++ tyC tb.kind tb.num tb.row (.slice oa3 on3 oc3) (.slice aa3 an3 ac3)).toArray 32)).setCell ⟨x5, 4, none⟩ (.slice (some ⟨w3.heap.size, 0, none⟩) 2 2)) := Ch.setCell _ ⟨x5, 4, none⟩ _ rfl
  have ca : Hid (Ch (fun k => k = x5) w3 ((w3.alloc (.cells (tyC ta.kind ta.num ta.row (.slice oa on oc) (.slice aa an ac) ++ tyC tb.kind tb.num tb.row (.slice oa3 on3 oc3) (.slice aa3 an3 ac3)).toArray 32)).setCell ⟨x5, 4, none⟩ (.slice (some ⟨w3.heap.size, 0, none⟩) 2 2))) := ((al_ch w3 _).mono (fun _ h => h.elim)).trans cs (fun _ h => .inl h)
  have hrow : Hid (TyRow (w.heap.size + 1) ((w3.alloc (.cells (tyC ta.kind ta.num ta.row (.slice oa on oc) (.slice aa an ac) ++ tyC tb.kind tb.num tb.row (.slice oa3 on3 oc3) (.slice aa3 an3 ac3)).toArray 32)).setCell ⟨x5, 4, none⟩ (.slice (some ⟨w3.heap.size, 0, none⟩) 2 2)) (.slice (some ⟨w3.heap.size, 0, none⟩) 2 2) 2 (tyC ta.kind ta.num ta.row (.slice oa on oc) (.slice aa an ac) ++ tyC tb.kind tb.num tb.row (.slice oa3 on3 oc3) (.slice aa3 an3 ac3))) :=
    (TyRow.new (w := w3) (n := w.heap.size + 1) (xs := tyC ta.kind ta.num ta.row (.slice oa on oc) (.slice aa an ac) ++ tyC tb.kind tb.num tb.row (.slice oa3 on3 oc3) (.slice aa3 an3 ac3)) rfl (by decide) (by omega) (by decide)).ch cs (fun k hk e => by have hk2 : w3.heap.size = k := Option.some.inj hk; omega)
  clear cs
  have hra := hid (hr23.out.ch ca.out (fun k hk _ e => by omega))
  have hrb := hid (hr3.out.ch ca.out (fun k hk _ e => by omega))
  obtain ⟨⟨p0, p1, p2, p3, p4⟩, pf⟩ := ty_cells hs5.out.b5
  obtain ⟨⟨q0, q1, q2, q3, q4⟩, qf⟩ := ty_cells hs5.out.b4
  have e0 : (.cells #[.int .i64 ta.kind, .int .i64 ta.num, .int .i64 ta.row, .slice oa on oc, .slice aa an ac, .int .i64 tb.kind, .int .i64 tb.num, .int .i64 tb.row, .slice oa3 on3 oc3, .slice aa3 an3 ac3] 32 : Obj) = .cells (tyC ta.kind ta.num ta.row (.slice oa on oc) (.slice aa an ac) ++ tyC tb.kind tb.num tb.row (.slice oa3 on3 oc3) (.slice aa3 an3 ac3)).toArray 32 := rfl
  rw [← e0] at ca hrow hra hrb
  clear e0
  generalize (w3.alloc (.cells #[.int .i64 ta.kind, .int .i64 ta.num, .int .i64 ta.row, .slice oa on oc, .slice aa an ac, .int .i64 tb.kind, .int .i64 tb.num, .int .i64 tb.row, .slice oa3 on3 oc3, .slice aa3 an3 ac3] 32)).setCell ⟨x5, 4, none⟩ (.slice (some ⟨w3.heap.size, 0, none⟩) 2 2) = W5 at *
  go_wp2
  refine Write_ret rfl rfl (set5_blk hs5.out.b4) ?_
  exact Wst.fin (t := .pair ta tb) (os := .slice none 0 0) h.out hs5.out (Rb.pair nul0 (hra.out.le (by omega)) (hrb.out.le (by omega)) hrow.out)
end Go.Proofs.YtficijneelpmcaaGreat
