/-
  The program's Write: functions.
  The program's Write; answers.
-/
import Derived.Test.YtcogpcalghfghaaMVs
set_option linter.unusedVariables false
set_option linter.unusedSimpArgs false
namespace Go.Proofs.Ytcogpcalghfghaa
open Go.RowKit
open Un (Bag Nm Gr)
variable {F : Nat → Prop}

/-- What is no node, no row variable and no map stands. -/
theorem WrM.stayT {w w' : World} {G : Gr} {X : Gx} {wB mT mR : Nat} {N : Gr.Nms} (h : WrM w G X F wB mT mR N) (hc : Ch (ownW X G.n mT mR) w w') {b : Nat} {cs : Array Value} {T : TypeId} {fr : Nat × Nat} (hb : w.heap[b]? = some (.cells cs T fr)) (h1 : T ≠ 78) (h2 : T ≠ 83) : w'.heap[b]? = some (.cells cs T fr) := by
  refine (hc.same b (Array.getElem?_eq_some_iff.1 hb).1 ?_).trans hb
  rintro (e | e | e)
  · rcases h.pg.tg b _ _ _ e hb with e | e
    · exact h1 e
    · exact h2 e
  · obtain ⟨es, c, hm, _⟩ := h.mt
    rw [← e, hb] at hm
    cases hm
  · obtain ⟨es, c, hm, _⟩ := h.mr
    rw [← e, hb] at hm
    cases hm
/-- A function's type, while it is made. -/
structure Fst (w W : World) (G : Gr) (X : Gx) (F F2 : Nat → Prop) (wB mT mR : Nat) (N : Gr.Nms) (i g o c ka kb x5 x6 : Nat) (ta : Ty.P) (oa aa : Value) (r : Int) (os : Value) (l : List Nm) : Prop where
  st : Wst w W G X F F2 wB mT mR N 6 0 r os (.slice none 0 0) x5
  kd : Kd W (X.pi (X.root i)) g o c (X.pi ka) (X.pi kb)
  b6 : W.heap[x6]? = some (tyB ta.kind ta.num ta.row oa aa)
  rb : Rb (x5 + 1) W ta oa aa
  on : W.ownsRow 0 9 1 os l.length (strs l)
  ob : ∀ k, os.ownBlock = some k → x5 + 1 ≤ k
  lo : ∀ k, ownW X G.n mT mR k → k < w.heap.size
  hi : i < G.n
  n6 : x6 ≠ x5
theorem Fst.turn {w W W2 : World} {G : Gr} {X : Gx} {F2 : Nat → Prop} {wB mT mR : Nat} {N N' : Gr.Nms} {i g o c ka kb x5 x6 : Nat} {ta : Ty.P} {oa aa : Value} {r : Int} {os : Value} {l : List Nm} (h : Fst w W G X F F2 wB mT mR N i g o c ka kb x5 x6 ta oa aa r os l) (hm : WrM W2 G X F2 wB mT mR N') (hc : Ch (ownW X G.n mT mR) W W2) (hst : Stay G X W W2) : Fst w W2 G X F F2 wB mT mR N' i g o c ka kb x5 x6 ta oa aa r os l := by
  have hl := h.st.lt
  exact ⟨h.st.turn hm hc hst, h.kd.turn h.st.wm h.hi hc hst, h.st.wm.stayT hc h.b6 (by decide) (by decide), h.rb.ch hc (fun k hk _ e => by have := h.lo k e; omega), ownsRow_keep h.on (fun k hk => hc.same k (ownsRow_lt h.on hk) (fun e => by have := h.lo k e; have := h.ob k hk; omega)), h.ob, h.lo, h.hi, h.n6⟩
theorem Fst.quiet {w W W2 : World} {G : Gr} {X : Gx} {F2 : Nat → Prop} {wB mT mR : Nat} {N : Gr.Nms} {i g o c ka kb x5 x6 : Nat} {ta : Ty.P} {oa aa : Value} {r : Int} {os : Value} {l : List Nm} (h : Fst w W G X F F2 wB mT mR N i g o c ka kb x5 x6 ta oa aa r os l) (hc : Ch (fun _ => False) W W2) : Fst w W2 G X F F2 wB mT mR N i g o c ka kb x5 x6 ta oa aa r os l :=
  h.turn (h.st.wm.quiet hc) (hc.mono (fun _ h => h.elim)) (h.st.wm.pg.stays hc (fun _ _ h => h))
/-- A cell of what is made is set: names, a number. -/
theorem Fst.putR {w W : World} {G : Gr} {X : Gx} {F2 : Nat → Prop} {wB mT mR : Nat} {N : Gr.Nms} {i g o c ka kb x5 x6 : Nat} {ta : Ty.P} {oa aa : Value} {r : Int} {os : Value} {l : List Nm} (h : Fst w W G X F F2 wB mT mR N i g o c ka kb x5 x6 ta oa aa r os l) (r' : Int) : Fst w (W.setCell ⟨x5, 2, none⟩ (.int .i64 r')) G X F F2 wB mT mR N i g o c ka kb x5 x6 ta oa aa r' os l := by
  have hc : Ch (fun k => k = x5) W (W.setCell ⟨x5, 2, none⟩ (.int .i64 r')) := Ch.setCell W ⟨x5, 2, none⟩ _ rfl
  exact ⟨h.st.put rfl, h.kd.put h.st.b5 (by decide) h.st.f5 h.st.wm.pg h.hi, blk_other h.b6 h.n6, h.rb.ch hc (fun k hk _ e => by omega), ownsRow_keep h.on (fun k hk => hc.same k (ownsRow_lt h.on hk) (fun e => by have := h.ob k hk; omega)), h.ob, h.lo, h.hi, h.n6⟩
theorem Fst.putO {w W W0 : World} {G : Gr} {X : Gx} {F2 : Nat → Prop} {wB mT mR : Nat} {N : Gr.Nms} {i g o c ka kb x5 x6 : Nat} {ta : Ty.P} {oa aa : Value} {r : Int} {os : Value} {l : List Nm} (h : Fst w W G X F F2 wB mT mR N i g o c ka kb x5 x6 ta oa aa r os l) {v : Value} {l' : List Nm} (hF : Fresh W0 W v l') (hx : x5 < W0.heap.size) : Fst w (W.setCell ⟨x5, 3, none⟩ v) G X F F2 wB mT mR N i g o c ka kb x5 x6 ta oa aa r v l' := by
  have hc : Ch (fun k => k = x5) W (W.setCell ⟨x5, 3, none⟩ v) := Ch.setCell W ⟨x5, 3, none⟩ _ rfl
  exact ⟨h.st.put rfl, h.kd.put h.st.b5 (by decide) h.st.f5 h.st.wm.pg h.hi, blk_other h.b6 h.n6, h.rb.ch hc (fun k hk _ e => by omega), ownsRow_keep hF.1 (fun k hk => hc.same k (ownsRow_lt hF.1 hk) (fun e => by have := hF.2.2 k hk; omega)), fun k hk => by have := hF.2.2 k hk; omega, h.lo, h.hi, h.n6⟩
/-- The cells that the last region reads. -/
theorem Fst.s {w W : World} {G : Gr} {X : Gx} {F2 : Nat → Prop} {wB mT mR : Nat} {N : Gr.Nms} {i g o c ka kb x5 x6 : Nat} {ta : Ty.P} {oa aa : Value} {r : Int} {os : Value} {l : List Nm} (h : Fst w W G X F F2 wB mT mR N i g o c ka kb x5 x6 ta oa aa r os l) :
    (W.cell? ⟨X.pi (X.root i), 1, none⟩ = some (.slice (some ⟨g, o, none⟩) 2 c) ∧ W.cell? ⟨g, o + 1, none⟩ = some (.pointer (some ⟨X.pi kb, 0, none⟩))) ∧
    W.cell? ⟨x6, 0, none⟩ = some (.int .i64 ta.kind) ∧ W.cell? ⟨x6, 1, none⟩ = some (.int .i64 ta.num) ∧ W.cell? ⟨x6, 2, none⟩ = some (.int .i64 ta.row) ∧ W.cell? ⟨x6, 3, none⟩ = some oa ∧ W.cell? ⟨x6, 4, none⟩ = some aa := by
  obtain ⟨p0, p1, p2, p3, p4⟩ := (ty_cells h.b6).1
  exact ⟨⟨h.kd.s.1, h.kd.s.2.2⟩, p0, p1, p2, p3, p4⟩
/-- The same cells, once the last cell is set. -/
theorem Fst.s4 {w W : World} {G : Gr} {X : Gx} {F2 : Nat → Prop} {wB mT mR : Nat} {N : Gr.Nms} {i g o c ka kb x5 x6 : Nat} {ta : Ty.P} {oa aa : Value} {r : Int} {os : Value} {l : List Nm} (h : Fst w W G X F F2 wB mT mR N i g o c ka kb x5 x6 ta oa aa r os l) (v : Value) :
    ((W.setCell ⟨x5, 4, none⟩ v).cell? ⟨X.pi (X.root i), 1, none⟩ = some (.slice (some ⟨g, o, none⟩) 2 c) ∧ (W.setCell ⟨x5, 4, none⟩ v).cell? ⟨g, o + 1, none⟩ = some (.pointer (some ⟨X.pi kb, 0, none⟩))) ∧
    (W.setCell ⟨x5, 4, none⟩ v).cell? ⟨x6, 0, none⟩ = some (.int .i64 ta.kind) ∧ (W.setCell ⟨x5, 4, none⟩ v).cell? ⟨x6, 1, none⟩ = some (.int .i64 ta.num) ∧ (W.setCell ⟨x5, 4, none⟩ v).cell? ⟨x6, 2, none⟩ = some (.int .i64 ta.row) ∧ (W.setCell ⟨x5, 4, none⟩ v).cell? ⟨x6, 3, none⟩ = some oa ∧ (W.setCell ⟨x5, 4, none⟩ v).cell? ⟨x6, 4, none⟩ = some aa := by
  have hk := h.kd.put (i := 4) (v := v) h.st.b5 (by decide) h.st.f5 h.st.wm.pg h.hi
  have hb : (W.setCell ⟨x5, 4, none⟩ v).heap[x6]? = some (tyB ta.kind ta.num ta.row oa aa) := blk_other h.b6 h.n6
  obtain ⟨p0, p1, p2, p3, p4⟩ := (ty_cells hb).1
  exact ⟨⟨hk.s.1, hk.s.2.2⟩, p0, p1, p2, p3, p4⟩
/-- A function's type is made. -/
theorem Fst.fin {w w7 Wd : World} {G : Gr} {X : Gx} {F2 : Nat → Prop} {wB mT mR : Nat} {N0 N : Gr.Nms} {i g o c ka kb x5 x6 : Nat} {ta tb : Ty.P} {oa aa ob ab : Value} {r : Nat} {os : Value} {l : List Nm} (h0 : WrM w G X F wB mT mR N0)
    (h : Fst w (w7.alloc (.cells (tyC ta.kind ta.num ta.row oa aa ++ tyC tb.kind tb.num tb.row ob ab).toArray 27)) G X F F2 wB mT mR N i g o c ka kb x5 x6 ta oa aa (r : Nat) os l) (hr7 : Rb Wd.heap.size w7 tb ob ab) (hd : x5 < Wd.heap.size) (hz : Wd.heap.size ≤ w7.heap.size) :
    WrP G X F wB mT mR N (.fn ta tb l r) w (.returned (tyV 6 0 (r : Nat) os (.slice (some ⟨w7.heap.size, 0, none⟩) 2 2))) (set5 ((w7.alloc (.cells (tyC ta.kind ta.num ta.row oa aa ++ tyC tb.kind tb.num tb.row ob ab).toArray 27)).setCell ⟨x5, 4, none⟩ (.slice (some ⟨w7.heap.size, 0, none⟩) 2 2)) w.heap.size 6 0 (r : Nat) os (.slice (some ⟨w7.heap.size, 0, none⟩) 2 2)) ∧
    ((w7.alloc (.cells (tyC ta.kind ta.num ta.row oa aa ++ tyC tb.kind tb.num tb.row ob ab).toArray 27)).setCell ⟨x5, 4, none⟩ (.slice (some ⟨w7.heap.size, 0, none⟩) 2 2)).heap[w.heap.size]? = some (ty0 0) ∧
    ((w7.alloc (.cells (tyC ta.kind ta.num ta.row oa aa ++ tyC tb.kind tb.num tb.row ob ab).toArray 27)).setCell ⟨x5, 4, none⟩ (.slice (some ⟨w7.heap.size, 0, none⟩) 2 2)).heap[x5]? = some (tyB 6 0 (r : Nat) os (.slice (some ⟨w7.heap.size, 0, none⟩) 2 2)) := by
  have hl := h.st.lt
  have hs5 := h.st.put (i := 4) (v := .slice (some ⟨w7.heap.size, 0, none⟩) 2 2) (az' := .slice (some ⟨w7.heap.size, 0, none⟩) 2 2) rfl
  have cs : Ch (fun k => k = x5) (w7.alloc (.cells (tyC ta.kind ta.num ta.row oa aa ++ tyC tb.kind tb.num tb.row ob ab).toArray 27)) ((w7.alloc (.cells (tyC ta.kind ta.num ta.row oa aa ++ tyC tb.kind tb.num tb.row ob ab).toArray 27)).setCell ⟨x5, 4, none⟩ (.slice (some ⟨w7.heap.size, 0, none⟩) 2 2)) := Ch.setCell _ ⟨x5, 4, none⟩ _ rfl
  have ca := ((al_ch w7 (.cells (tyC ta.kind ta.num ta.row oa aa ++ tyC tb.kind tb.num tb.row ob ab).toArray 27)).mono (O1 := fun k => k = x5) (fun _ h => h.elim)).trans cs (fun _ h => .inl h)
  have hrow := (TyRow.new (w := w7) (m := 2) (n := w.heap.size + 1) (xs := tyC ta.kind ta.num ta.row oa aa ++ tyC tb.kind tb.num tb.row ob ab) rfl (by decide) (by omega) (by decide)).ch cs (fun k hk e => by have hk2 : w7.heap.size = k := Option.some.inj hk; omega)
  have hra := h.rb.ch cs (fun k hk _ e => by omega)
  have hrb := hr7.ch ca (fun k hk _ e => by omega)
  have hon := ownsRow_keep h.on (fun k hk => cs.same k (ownsRow_lt h.on hk) (fun e => by have := h.ob k hk; omega))
  exact ⟨Wst.fin (t := .fn ta tb l r) h0 hs5 (Rb.fn hon (fun k hk => by have := h.ob k hk; omega) (hra.le (by omega)) (hrb.le (by omega)) hrow), hs5.b4, hs5.b5⟩

set_option maxRecDepth 100000 in
set_option maxHeartbeats 16000000 in
theorem Write_fn {T : Nat} (hT : T < 100000000) {w : World} {G : Gr} (hB : G.Bd T) {X : Gx} {wB mT mR i k : Nat} (ih : WrOK G X wB mT mR k) {N N1 N2 : Gr.Nms} {ta tb : Ty.P} (hG : G.OK) (h : WrM w G X F wB mT mR N) (hi : i < G.n) (hk : G.kind (G.rep i) = 6) (ha : G.told k ((G.kids (G.rep i)).getD 0 0) N = some (ta, N1)) (hb : G.told k ((G.kids (G.rep i)).getD 1 0) (Gr.rowOf N1 (G.whole (G.rep i)).2).2 = some (tb, N2)) (hn : N.t.length + N.r.length + (1 + ta.parts + tb.parts) < 1000000000) :
    Calls Try.prog 21 #[.pointer (some ⟨wB, 0, none⟩), .pointer (some ⟨X.pi i, 0, none⟩)] w fun e w' => WrP G X F wB mT mR N2 (.fn ta tb (G.whole (G.rep i)).1 (Gr.rowOf N1 (G.whole (G.rep i)).2).1) w e w' := by
  have HN := Now_stay _ G X i (h.pg.grow (al_ch w (ty0 0))) hi
  have hlo : ∀ k, ownW X G.n mT mR k → k < w.heap.size := fun k hk => h.lt hk
  have hroot := h.pg.root_kind i hi (by rw [hk]; decide)
  have hrl := hG.rep_lt i hi
  have hlen : N1.t.length + N1.r.length + (1 + tb.parts) < 1000000000 := by
    have := Un.Gr.told_len G _ _ _ _ _ ha
    omega
  have hlen2 : (Gr.rowOf N1 (G.whole (G.rep i)).2).2.t.length + (Gr.rowOf N1 (G.whole (G.rep i)).2).2.r.length + tb.parts < 1000000000 := by
    have := Un.Gr.rowOf_len N1 (G.whole (G.rep i)).2
    omega
  have hwl := Un.Gr.Bd.whole hB hrl
  replace h := hid h
  replace hk := hid hk
  replace hlo := hid hlo
  replace hlen := hid hlen
  replace hlen2 := hid hlen2
  replace hroot := hid hroot
  go_enter Try.func21, Try.ntmps21
  go_upto_region 3 with (go_at_call 27; refine HN.mono ?_; clear HN; rintro e w1 ⟨rfl, hp1, hc1, ht9⟩; have c0 := kind_cell hG hp1 hi hk.out; obtain ⟨F2, hs⟩ := Wst.start h.out hp1 hc1 ht9 ((6 : Nat) : Int); replace hs := hid hs; clear hp1 hc1 ht9)
  clear c0
  have c0 := kind_cell hG hs.out.wm.pg hi hk.out
  obtain ⟨g, o, c, c1, hcc, hgt⟩ := kid_cells hG hs.out.wm.pg hi (by rw [hk.out]; decide) (n := 2) (by rw [hk.out]; rfl) (by decide)
  obtain ⟨d0, hkan⟩ := hcc 0 (by decide)
  obtain ⟨d1, hkbn⟩ := hcc 1 (by decide)
  rw [Nat.add_zero] at d0
  generalize (G.kids (G.rep i)).getD 0 0 = ka at *
  generalize (G.kids (G.rep i)).getD 1 0 = kb at *
  have hkd : Kd _ (X.pi (X.root i)) g o c (X.pi ka) (X.pi kb) := ⟨⟨c1, d0, d1⟩, hgt g rfl⟩
  clear hcc d1 hgt
  replace hkd := hid hkd
  generalize w1.alloc (tyB ((6 : Nat) : Int) 0 0 (.slice none 0 0) (.slice none 0 0)) = W0 at *
  generalize w1.heap.size = x5 at *
  have hx5 := hid hs.out.x5
  have HT := ih hs.out.wm hkan ha (by have := hn; omega)
  replace hb := hid hb
  replace ha := hid ha
  go_upto_region 12 with (go_at_call 21; refine HT.mono ?_; clear HT; rintro e w2 ⟨oa, aa, rfl, hr2, hm2, hc2, ht2⟩; obtain ⟨⟨oa1, on1, oc1, hos⟩, ⟨aa1, an1, ac1, haz⟩⟩ := And.intro hr2.so hr2.sa; subst hos haz; replace hr2 := hid hr2; replace hm2 := hid hm2; replace hc2 := hid hc2; replace ht2 := hid ht2)
  clear c0 c1 d0
  have hs2 : Hid (Fst w (w2.alloc (tyB ta.kind ta.num ta.row (.slice oa1 on1 oc1) (.slice aa1 an1 ac1))) G X F F2 wB mT mR N1 i g o c ka kb x5 w2.heap.size ta (.slice oa1 on1 oc1) (.slice aa1 an1 ac1) 0 (.slice none 0 0) []) := by
    have hl := hs.out.lt
    have hx6 := hx5.out
    have hz := hc2.out.size
    have ca := al_ch w2 (tyB ta.kind ta.num ta.row (.slice oa1 on1 oc1) (.slice aa1 an1 ac1))
    have h2 := hs.out.turn hm2.out hc2.out ht2.out
    have hk2 := hkd.out.turn hs.out.wm hi hc2.out ht2.out
    exact ⟨h2.quiet ca, hk2.quiet ca, World.alloc_heap_new w2 _, ((hr2.out.le (by omega)).ch ca (fun _ _ _ h => h)), World.ownsRow_nil _ _ _ _, (fun k hk => by cases hk), hlo.out, hi, by omega⟩
  clear hs hkd hr2 hm2 hc2 ht2 hx5
  generalize w2.alloc (tyB ta.kind ta.num ta.row (.slice oa1 on1 oc1) (.slice aa1 an1 ac1)) = W2 at *
  generalize w2.heap.size = x6 at *
  obtain ⟨-, av, ov, rp, up, b, hnb, -, hbt, hfl, hrv, -⟩ := hs2.out.st.wm.pg.node _ (hs2.out.st.wm.pg.root_lt i hi)
  obtain ⟨sv, sc, hov, _⟩ := id hbt.bv
  subst hov
  have c2 : W2.cell? ⟨X.pi (X.root i), 2, none⟩ = some (.slice sv b.length sc) := by rw [cellB hnb]; rfl
  have c3 : W2.cell? ⟨X.pi (X.root i), 3, none⟩ = some (oP rp) := by rw [cellB hnb]; rfl
  clear hnb
  rw [hroot.out] at hfl hrv
  have hwh : G.wh (Un.flat b) (G.rv (G.rep i)) = G.whole (G.rep i) := by rw [hfl, Un.Gr.whole_wh]
  obtain ⟨kr, hkr⟩ : ∃ k, ∀ s, G.rv (G.rep i) = some s → X.rr s < k := by
    cases G.rv (G.rep i) with
    | none => exact ⟨0, fun s e => by cases e⟩
    | some s => exact ⟨X.rr s + 1, fun q e => by cases e; omega⟩
  have HW := whole_rows hT hG kr W2 _ b _ rp F2 hs2.out.st.wm.pg hbt hrv hkr (by rw [hwh]; exact hwl)
  clear hbt hfl hrv hkr
  replace hwh := hid hwh
  go_upto_region 13 with (go_at_call 31; refine HW.mono ?_; clear HW; rintro e w3 ⟨v3, b3, p3, rfl, hb3, hrv3, hf3, hp3, hc3⟩; obtain ⟨s3, k3, hv3, _⟩ := id hb3.bv; subst hv3; replace hb3 := hid hb3; replace hrv3 := hid hrv3; replace hf3 := hid hf3; replace hp3 := hid hp3; replace hc3 := hid hc3)
  clear c2 c3
  have ca3 := al_ch w3 (.cells #[.slice s3 b3.length k3, oP p3] 76)
  have hs3 := hid ((hs2.out.turn (hs2.out.st.wm.keep hp3.out (hc3.out.mono (fun _ h => Gx.rows_own h))) (hc3.out.mono (fun _ h => .inl (Gx.rows_own h))) (hs2.out.st.wm.pg.stays hc3.out (fun j hj e => by obtain ⟨r, hr⟩ := e; exact hs2.out.st.wm.pg.apart hj hr))).quiet ca3)
  have hR3 := World.alloc_heap_new w3 (.cells #[.slice s3 b3.length k3, oP p3] 76)
  have hbb := hb3.out.quiet ca3
  rw [hwh.out] at hf3 hrv3
  generalize w3.alloc (.cells #[.slice s3 b3.length k3, oP p3] 76) = W3 at *
  generalize w3.heap.size = x7 at *
  clear hs2 hp3 hc3 hb3
  have hx53 := hs3.out.st.x5
  have hsm := hbb.small (T := T) (by rw [hf3.out]; exact hwl)
  have HL := list_any W3 _ b3 hbb.bv hbb.ok (by have := hsm.1; omega) (by rw [hf3.out]; omega)
  obtain ⟨r0, r1, -, -⟩ := row_cells hR3
  clear hsm hbb
  replace hR3 := hid hR3
  replace ca3 := hid ca3
  go_upto_region 14 with (go_at_call 32; refine HL.mono ?_; clear HL; rintro e w4 ⟨v4, rfl, hF4⟩; obtain ⟨s4, k4, hv4, _⟩ := row_slice hF4.1; subst hv4; obtain ⟨⟨p0, p1, p2, p3', p4⟩, pf⟩ := ty_cells (hs3.out.quiet hF4.2.1).st.b5; replace hF4 := hid hF4)
  clear p0 p1 p2 p3' p4 pf r0 r1
  have hs4 := hid (((hs3.out.quiet hF4.out.2.1).putO hF4.out hx53))
  have hR4 : (w4.setCell ⟨x5, 3, none⟩ (.slice s4 (Un.flat b3).length k4)).heap[x7]? = some (.cells #[.slice s3 b3.length k3, oP p3] 76 (0, 0)) := by
    refine blk_other ((hF4.out.2.1.same _ (Array.getElem?_eq_some_iff.1 hR3.out).1 (fun h => h)).trans hR3.out) (fun e => ?_)
    have e2 := hs3.out.st.b5
    have e3 := hR3.out
    rw [show x7 = x5 from e, e2] at e3
    cases e3
  clear hs3 hR3 hx53 hF4
  generalize w4.setCell ⟨x5, 3, none⟩ (.slice s4 (Un.flat b3).length k4) = W4 at *
  obtain ⟨-, r1, -, -⟩ := row_cells hR4
  replace hR4 := hid hR4
  cases p3 with
  | none =>
    simp only [oP_none] at r1
    have hq : (G.whole (G.rep i)).2 = none := by
      have hz := hrv3.out
      revert hz
      cases (G.whole (G.rep i)).2 with
      | none => intro _; rfl
      | some v => intro hz; exact absurd rfl hz.2
    go_upto_region 16 with (fail)
    have hs5 := hs4
    clear hs4 r1
    have hcd := Ch.drew (fun _ => False) W4
    have hs6 := hs5.out.quiet hcd
    have hxw := hs6.st.x5
    have HT2 := ih hs6.st.wm hkbn (by have := hb.out; rw [hq] at this; exact this) (by have := hlen2.out; rw [hq] at this; exact this)
    clear hcd hs5
    have hS0 := hs6.s
    replace hs6 := hid hs6
    refine wp_region_held_drew (S := (fun w' => (w'.cell? ⟨X.pi (X.root i), 1, none⟩ = some (.slice (some ⟨g, o, none⟩) 2 c) ∧ w'.cell? ⟨g, o + 1, none⟩ = some (.pointer (some ⟨X.pi kb, 0, none⟩))) ∧ w'.cell? ⟨x6, 0, none⟩ = some (.int .i64 ta.kind) ∧ w'.cell? ⟨x6, 1, none⟩ = some (.int .i64 ta.num) ∧ w'.cell? ⟨x6, 2, none⟩ = some (.int .i64 ta.row) ∧ w'.cell? ⟨x6, 3, none⟩ = some (.slice oa1 on1 oc1) ∧ w'.cell? ⟨x6, 4, none⟩ = some (.slice aa1 an1 ac1))) (by kernel_rfl) (by first | trivial | ((try dsimp only); go_keep)) (fun hHeld => ?_)
    refine wpAnyH_take (i := 0) (v := ?vvn1) rfl (by kernel_rfl) (by kernel_rfl) (by kernel_rfl) (fun _ _ _ h => h) (Or.inl ⟨by rfl, ?yyn1⟩) (by assumption) ?rrn1
    case yyn1 => (intro w' hSw; (try dsimp only at hSw); go_simp; (try with_reducible rfl))
    try simp only [Act.put, List.setIfInBounds_toArray, List.set_cons_zero, List.set_cons_succ]
    refine wpAnyH_take (i := 1) (v := ?vvn2) rfl (by kernel_rfl) (by kernel_rfl) (by kernel_rfl) (fun _ _ _ h => h) (Or.inl ⟨by rfl, ?yyn2⟩) (by assumption) ?rrn2
    case yyn2 => (intro w' hSw; (try dsimp only at hSw); go_simp; (try with_reducible rfl))
    try simp only [Act.put, List.setIfInBounds_toArray, List.set_cons_zero, List.set_cons_succ]
    refine wpAnyH_take (i := 2) (v := ?vvn3) rfl (by kernel_rfl) (by kernel_rfl) (by kernel_rfl) (fun _ _ _ h => h) (Or.inl ⟨by rfl, ?yyn3⟩) (by assumption) ?rrn3
    case yyn3 => (intro w' hSw; (try dsimp only at hSw); go_simp; (try with_reducible rfl))
    try simp only [Act.put, List.setIfInBounds_toArray, List.set_cons_zero, List.set_cons_succ]
    refine wpAnyH_take (i := 3) (v := ?vvn4) rfl (by kernel_rfl) (by kernel_rfl) (by kernel_rfl) (fun _ _ _ h => h) (Or.inl ⟨by rfl, ?yyn4⟩) (by assumption) ?rrn4
    case yyn4 => (intro w' hSw; (try dsimp only at hSw); go_simp; (try with_reducible rfl))
    try simp only [Act.put, List.setIfInBounds_toArray, List.set_cons_zero, List.set_cons_succ]
    refine wpAnyH_take (i := 4) (v := ?vvn5) rfl (by kernel_rfl) (by kernel_rfl) (by kernel_rfl) (fun _ _ _ h => h) (Or.inl ⟨by rfl, ?yyn5⟩) (by assumption) ?rrn5
    case yyn5 => (intro w' hSw; (try dsimp only at hSw); go_simp; (try with_reducible rfl))
    try simp only [Act.put, List.setIfInBounds_toArray, List.set_cons_zero, List.set_cons_succ]
    refine wpAnyH_take (i := 5) (v := ?vvn6) rfl (by kernel_rfl) (by kernel_rfl) (by kernel_rfl) (fun _ _ _ h => h) (Or.inl ⟨by rfl, ?yyn6⟩) (by assumption) ?rrn6
    case yyn6 => (intro w' hSw; (try dsimp only at hSw); go_simp; (try with_reducible rfl))
    try simp only [Act.put, List.setIfInBounds_toArray, List.set_cons_zero, List.set_cons_succ]
    refine wpAnyH_take (i := 6) (v := ?vvn7) rfl (by kernel_rfl) (by kernel_rfl) (by kernel_rfl) (fun _ _ _ h => h) (Or.inl ⟨by rfl, ?yyn7⟩) (by assumption) ?rrn7
    case yyn7 => (intro w' hSw; (try dsimp only at hSw); go_simp; (try with_reducible rfl))
    try simp only [Act.put, List.setIfInBounds_toArray, List.set_cons_zero, List.set_cons_succ]
    refine wpAnyH_take (i := 7) (v := ?vvn8) rfl (by kernel_rfl) (by kernel_rfl) (by kernel_rfl) (fun _ _ _ h => h) (Or.inl ⟨by rfl, ?yyn8⟩) (by assumption) ?rrn8
    case yyn8 => (intro w' hSw; (try dsimp only at hSw); go_simp; (try with_reducible rfl))
    try simp only [Act.put, List.setIfInBounds_toArray, List.set_cons_zero, List.set_cons_succ]
    refine wpAnyH_ready (rs := [8]) (by kernel_rfl) (by simp) (AllReadyH.cons rfl (fun K hK => ?_) AllReadyH.nil)
    go_simp
    refine HT2.mono ?_
    clear HT2
    rintro e w7 ⟨os7, az7, rfl, hr7, hm7, hc7, ht7⟩
    obtain ⟨⟨oa3, on3, oc3, hos⟩, ⟨aa3, an3, ac3, haz⟩⟩ := And.intro hr7.so hr7.sa
    subst hos haz
    have hs7 := hid (hs6.out.turn hm7 hc7 ht7)
    have hS5 := hs7.out.s
    have hs8 := hid (hs7.out.quiet (al_ch w7 (.cells #[.int .i64 ta.kind, .int .i64 ta.num, .int .i64 ta.row, .slice oa1 on1 oc1, .slice aa1 an1 ac1, .int .i64 tb.kind, .int .i64 tb.num, .int .i64 tb.row, .slice oa3 on3 oc3, .slice aa3 an3 ac3] 27)))
    have hz7 := hid hc7.size
    replace hr7 := hid hr7
    clear hm7 hc7 ht7
    dsimp only
    clear hHeld
    refine hK.out _ _ ?hs (fun hHeld => ?_)
    case hs => (first | exact hS5 | trivial | ((try dsimp only); go_keep) | ((try dsimp only); simp [*, World.cell?_alloc_some, World.cell?_setCell_far, World.cell?_setCell_other]))
    clear hK K
    try simp only [Act.put, List.setIfInBounds_toArray, List.set_cons_zero, List.set_cons_succ]
    refine wpAnyH_ready (rs := [9]) (by kernel_rfl) (by simp) (AllReadyH.cons rfl (fun K hK => ?_) AllReadyH.nil)
    go_simp
    have hS5 := hs8.out.s
    obtain ⟨⟨p0, p1, p2, p3', p4⟩, pf⟩ := ty_cells hs8.out.st.b5
    clear hHeld
    refine hK.out _ _ ?hs (fun hHeld => ?_)
    case hs => (first | exact hS5 | trivial | ((try dsimp only); go_keep) | ((try dsimp only); simp [*, World.cell?_alloc_some, World.cell?_setCell_far, World.cell?_setCell_other]))
    clear hK K
    try simp only [Act.put, List.setIfInBounds_toArray, List.set_cons_zero, List.set_cons_succ]
    refine wpAnyH_take (i := 10) (v := ?vvn9) rfl (by kernel_rfl) (by kernel_rfl) (by kernel_rfl) (fun _ _ _ h => h) (Or.inl ⟨by rfl, ?yyn9⟩) (by assumption) ?rrn9
    case yyn9 => (intro w' hSw; (try dsimp only at hSw); go_simp; (try with_reducible rfl))
    try simp only [Act.put, List.setIfInBounds_toArray, List.set_cons_zero, List.set_cons_succ]
    refine wpAnyH_ready (rs := [11]) (by kernel_rfl) (by simp) (AllReadyH.cons rfl (fun K hK => ?_) AllReadyH.nil)
    go_simp
    have hS5 := hs8.out.s4 (.slice (some ⟨w7.heap.size, 0, none⟩) 2 2)
    clear hHeld
    refine hK.out _ _ ?hs (fun hHeld => ?_)
    case hs => (first | exact hS5 | trivial | ((try dsimp only); go_keep) | ((try dsimp only); simp [*, World.cell?_alloc_some, World.cell?_setCell_far, World.cell?_setCell_other]))
    clear hK K
    try simp only [Act.put, List.setIfInBounds_toArray, List.set_cons_zero, List.set_cons_succ]
    refine wpAnyH_done (by kernel_rfl) ?_ _
    clear hHeld
    clear hS0 hS5 p0 p1 p2 p3' p4 pf
    obtain ⟨hf, hb4, hb5⟩ := Fst.fin (r := 0) h.out hs8.out hr7.out hxw hz7.out
    have e0 : ((.cells #[.int .i64 ta.kind, .int .i64 ta.num, .int .i64 ta.row, .slice oa1 on1 oc1, .slice aa1 an1 ac1, .int .i64 tb.kind, .int .i64 tb.num, .int .i64 tb.row, .slice oa3 on3 oc3, .slice aa3 an3 ac3] 27) : Obj) = .cells (tyC ta.kind ta.num ta.row (.slice oa1 on1 oc1) (.slice aa1 an1 ac1) ++ tyC tb.kind tb.num tb.row (.slice oa3 on3 oc3) (.slice aa3 an3 ac3)).toArray 27 := rfl
    rw [← e0] at hf hb4 hb5
    clear e0
    generalize (w7.alloc (.cells #[.int .i64 ta.kind, .int .i64 ta.num, .int .i64 ta.row, .slice oa1 on1 oc1, .slice aa1 an1 ac1, .int .i64 tb.kind, .int .i64 tb.num, .int .i64 tb.row, .slice oa3 on3 oc3, .slice aa3 an3 ac3] 27)).setCell ⟨x5, 4, none⟩ (.slice (some ⟨w7.heap.size, 0, none⟩) 2 2) = W9 at *
    replace hf := hid hf
    obtain ⟨⟨p0, p1, p2, p3', p4⟩, pf⟩ := ty_cells hb5
    obtain ⟨⟨q0, q1, q2, q3, q4⟩, qf⟩ := ty_cells hb4
    go_wp2
    refine Write_ret rfl rfl (set5_blk hb4) ?_
    rw [← hf3.out, hq]
    exact hf.out
  | some pb =>
    simp only [oP_some] at r1
    obtain ⟨v, hq, hv⟩ : ∃ v, (G.whole (G.rep i)).2 = some v ∧ X.ps v = some pb := by
      have hz := hrv3.out
      revert hz
      cases (G.whole (G.rep i)).2 with
      | none => intro hz; cases hz
      | some v => intro hz; exact ⟨v, rfl, hz.1⟩
    go_upto_region 15 with (fail)
    have hcd := Ch.drew (fun _ => False) W4
    have hs4' := hs4.out.quiet hcd
    have hR4' := (hcd.same _ (Array.getElem?_eq_some_iff.1 hR4.out).1 (fun h => h)).trans hR4.out
    have HNR := hs4'.st.wm.numR hv (by have := hlen.out; omega)
    have hS0 : W4.drew.cell? ⟨wB, 1, none⟩ = some (.map (some mR)) ∧ W4.drew.cell? ⟨x7, 1, none⟩ = some (.pointer (some ⟨pb, 0, none⟩)) := ⟨by rw [cellB hs4'.st.wm.bk]; rfl, (row_cells hR4').2.1⟩
    clear hs4 hR4 hcd r1
    have hs4 := hid hs4'
    have hR4 := hid hR4'
    clear hs4' hR4'
    refine wp_region_held_drew (S := (fun w' => w'.cell? ⟨wB, 1, none⟩ = some (.map (some mR)) ∧ w'.cell? ⟨x7, 1, none⟩ = some (.pointer (some ⟨pb, 0, none⟩)))) (by kernel_rfl) (by first | trivial | ((try dsimp only); go_keep)) (fun hHeld => ?_)
    refine wpAnyH_take (i := 0) (v := ?vvr10) rfl (by kernel_rfl) (by kernel_rfl) (by kernel_rfl) (fun _ _ _ h => h) (Or.inl ⟨by rfl, ?yyr10⟩) (by assumption) ?rrr10
    case yyr10 => (intro w' hSw; (try dsimp only at hSw); go_simp; (try with_reducible rfl))
    try simp only [Act.put, List.setIfInBounds_toArray, List.set_cons_zero, List.set_cons_succ]
    refine wpAnyH_take (i := 1) (v := ?vvr11) rfl (by kernel_rfl) (by kernel_rfl) (by kernel_rfl) (fun _ _ _ h => h) (Or.inl ⟨by rfl, ?yyr11⟩) (by assumption) ?rrr11
    case yyr11 => (intro w' hSw; (try dsimp only at hSw); go_simp; (try with_reducible rfl))
    try simp only [Act.put, List.setIfInBounds_toArray, List.set_cons_zero, List.set_cons_succ]
    refine wpAnyH_take (i := 2) (v := ?vvr12) rfl (by kernel_rfl) (by kernel_rfl) (by kernel_rfl) (fun _ _ _ h => h) (Or.inl ⟨by rfl, ?yyr12⟩) (by assumption) ?rrr12
    case yyr12 => (intro w' hSw; (try dsimp only at hSw); go_simp; (try with_reducible rfl))
    try simp only [Act.put, List.setIfInBounds_toArray, List.set_cons_zero, List.set_cons_succ]
    refine wpAnyH_take (i := 3) (v := ?vvr13) rfl (by kernel_rfl) (by kernel_rfl) (by kernel_rfl) (fun _ _ _ h => h) (Or.inl ⟨by rfl, ?yyr13⟩) (by assumption) ?rrr13
    case yyr13 => (intro w' hSw; (try dsimp only at hSw); go_simp; (try with_reducible rfl))
    try simp only [Act.put, List.setIfInBounds_toArray, List.set_cons_zero, List.set_cons_succ]
    refine wpAnyH_take (i := 4) (v := ?vvr14) rfl (by kernel_rfl) (by kernel_rfl) (by kernel_rfl) (fun _ _ _ h => h) (Or.inl ⟨by rfl, ?yyr14⟩) (by assumption) ?rrr14
    case yyr14 => (intro w' hSw; (try dsimp only at hSw); go_simp; (try with_reducible rfl))
    try simp only [Act.put, List.setIfInBounds_toArray, List.set_cons_zero, List.set_cons_succ]
    refine wpAnyH_take (i := 5) (v := ?vvr15) rfl (by kernel_rfl) (by kernel_rfl) (by kernel_rfl) (fun _ _ _ h => h) (Or.inl ⟨by rfl, ?yyr15⟩) (by assumption) ?rrr15
    case yyr15 => (intro w' hSw; (try dsimp only at hSw); go_simp; (try with_reducible rfl))
    try simp only [Act.put, List.setIfInBounds_toArray, List.set_cons_zero, List.set_cons_succ]
    refine wpAnyH_ready (rs := [6]) (by kernel_rfl) (by simp) (AllReadyH.cons rfl (fun K hK => ?_) AllReadyH.nil)
    go_simp
    refine HNR.mono ?_
    clear HNR
    rintro e w5 ⟨rfl, hm5, hc5, ht5⟩
    have hs5 := hid (hs4.out.turn hm5 hc5 ht5)
    have hR5 := hs4.out.st.wm.stayT hc5 hR4.out ne5 ne6
    have hS5 : w5.cell? ⟨wB, 1, none⟩ = some (.map (some mR)) ∧ w5.cell? ⟨x7, 1, none⟩ = some (.pointer (some ⟨pb, 0, none⟩)) := ⟨by rw [cellB hs5.out.st.wm.bk]; rfl, (row_cells hR5).2.1⟩
    obtain ⟨⟨p0, p1, p2, p3', p4⟩, pf⟩ := ty_cells hs5.out.st.b5
    replace hR5 := hid hR5
    clear hm5 hc5 ht5
    dsimp only
    clear hHeld
    refine hK.out _ _ ?hs (fun hHeld => ?_)
    case hs => (first | exact hS5 | trivial | ((try dsimp only); go_keep) | ((try dsimp only); simp [*, World.cell?_alloc_some, World.cell?_setCell_far, World.cell?_setCell_other]))
    clear hK K
    try simp only [Act.put, List.setIfInBounds_toArray, List.set_cons_zero, List.set_cons_succ]
    refine wpAnyH_take (i := 7) (v := ?vvr16) rfl (by kernel_rfl) (by kernel_rfl) (by kernel_rfl) (fun _ _ _ h => h) (Or.inl ⟨by rfl, ?yyr16⟩) (by assumption) ?rrr16
    case yyr16 => (intro w' hSw; (try dsimp only at hSw); go_simp; (try with_reducible rfl))
    try simp only [Act.put, List.setIfInBounds_toArray, List.set_cons_zero, List.set_cons_succ]
    refine wpAnyH_ready (rs := [8]) (by kernel_rfl) (by simp) (AllReadyH.cons rfl (fun K hK => ?_) AllReadyH.nil)
    go_simp
    have hs6 := hid (hs5.out.putR ((Gr.numOf N1.r v).1 : Nat))
    have hR6 := blk_other (a := ⟨x5, 2, none⟩) (v := .int .i64 ((Gr.numOf N1.r v).1 : Nat)) hR5.out (fun e => by
      have e2 := hs5.out.st.b5
      have e3 := hR5.out
      rw [show x7 = x5 from e, e2] at e3
      cases e3)
    have hS5 : (w5.setCell ⟨x5, 2, none⟩ (.int .i64 ((Gr.numOf N1.r v).1 : Nat))).cell? ⟨wB, 1, none⟩ = some (.map (some mR)) ∧ (w5.setCell ⟨x5, 2, none⟩ (.int .i64 ((Gr.numOf N1.r v).1 : Nat))).cell? ⟨x7, 1, none⟩ = some (.pointer (some ⟨pb, 0, none⟩)) := ⟨by rw [cellB hs6.out.st.wm.bk]; rfl, (row_cells hR6).2.1⟩
    clear hR6
    clear hHeld
    refine hK.out _ _ ?hs (fun hHeld => ?_)
    case hs => (first | exact hS5 | trivial | ((try dsimp only); go_keep) | ((try dsimp only); simp [*, World.cell?_alloc_some, World.cell?_setCell_far, World.cell?_setCell_other]))
    clear hK K
    try simp only [Act.put, List.setIfInBounds_toArray, List.set_cons_zero, List.set_cons_succ]
    refine wpAnyH_done (by kernel_rfl) ?_ _
    clear hHeld
    clear hS0 hS5 p0 p1 p2 p3' p4 pf hs4 hR4 hR5 hs5
    have hs5 := hs6
    clear hs6
    generalize w5.setCell ⟨x5, 2, none⟩ (.int .i64 ((Gr.numOf N1.r v).1 : Nat)) = W5 at *
    go_upto_region 16 with (fail)
    have hcd := Ch.drew (fun _ => False) W5
    have hs6 := hs5.out.quiet hcd
    have hxw := hs6.st.x5
    have HT2 := ih hs6.st.wm hkbn (by have := hb.out; rw [hq] at this; exact this) (by have := hlen2.out; rw [hq] at this; exact this)
    clear hcd hs5
    have hS0 := hs6.s
    replace hs6 := hid hs6
    refine wp_region_held_drew (S := (fun w' => (w'.cell? ⟨X.pi (X.root i), 1, none⟩ = some (.slice (some ⟨g, o, none⟩) 2 c) ∧ w'.cell? ⟨g, o + 1, none⟩ = some (.pointer (some ⟨X.pi kb, 0, none⟩))) ∧ w'.cell? ⟨x6, 0, none⟩ = some (.int .i64 ta.kind) ∧ w'.cell? ⟨x6, 1, none⟩ = some (.int .i64 ta.num) ∧ w'.cell? ⟨x6, 2, none⟩ = some (.int .i64 ta.row) ∧ w'.cell? ⟨x6, 3, none⟩ = some (.slice oa1 on1 oc1) ∧ w'.cell? ⟨x6, 4, none⟩ = some (.slice aa1 an1 ac1))) (by kernel_rfl) (by first | trivial | ((try dsimp only); go_keep)) (fun hHeld => ?_)
    refine wpAnyH_take (i := 0) (v := ?vvm17) rfl (by kernel_rfl) (by kernel_rfl) (by kernel_rfl) (fun _ _ _ h => h) (Or.inl ⟨by rfl, ?yym17⟩) (by assumption) ?rrm17
    case yym17 => (intro w' hSw; (try dsimp only at hSw); go_simp; (try with_reducible rfl))
    try simp only [Act.put, List.setIfInBounds_toArray, List.set_cons_zero, List.set_cons_succ]
    refine wpAnyH_take (i := 1) (v := ?vvm18) rfl (by kernel_rfl) (by kernel_rfl) (by kernel_rfl) (fun _ _ _ h => h) (Or.inl ⟨by rfl, ?yym18⟩) (by assumption) ?rrm18
    case yym18 => (intro w' hSw; (try dsimp only at hSw); go_simp; (try with_reducible rfl))
    try simp only [Act.put, List.setIfInBounds_toArray, List.set_cons_zero, List.set_cons_succ]
    refine wpAnyH_take (i := 2) (v := ?vvm19) rfl (by kernel_rfl) (by kernel_rfl) (by kernel_rfl) (fun _ _ _ h => h) (Or.inl ⟨by rfl, ?yym19⟩) (by assumption) ?rrm19
    case yym19 => (intro w' hSw; (try dsimp only at hSw); go_simp; (try with_reducible rfl))
    try simp only [Act.put, List.setIfInBounds_toArray, List.set_cons_zero, List.set_cons_succ]
    refine wpAnyH_take (i := 3) (v := ?vvm20) rfl (by kernel_rfl) (by kernel_rfl) (by kernel_rfl) (fun _ _ _ h => h) (Or.inl ⟨by rfl, ?yym20⟩) (by assumption) ?rrm20
    case yym20 => (intro w' hSw; (try dsimp only at hSw); go_simp; (try with_reducible rfl))
    try simp only [Act.put, List.setIfInBounds_toArray, List.set_cons_zero, List.set_cons_succ]
    refine wpAnyH_take (i := 4) (v := ?vvm21) rfl (by kernel_rfl) (by kernel_rfl) (by kernel_rfl) (fun _ _ _ h => h) (Or.inl ⟨by rfl, ?yym21⟩) (by assumption) ?rrm21
    case yym21 => (intro w' hSw; (try dsimp only at hSw); go_simp; (try with_reducible rfl))
    try simp only [Act.put, List.setIfInBounds_toArray, List.set_cons_zero, List.set_cons_succ]
    refine wpAnyH_take (i := 5) (v := ?vvm22) rfl (by kernel_rfl) (by kernel_rfl) (by kernel_rfl) (fun _ _ _ h => h) (Or.inl ⟨by rfl, ?yym22⟩) (by assumption) ?rrm22
    case yym22 => (intro w' hSw; (try dsimp only at hSw); go_simp; (try with_reducible rfl))
    try simp only [Act.put, List.setIfInBounds_toArray, List.set_cons_zero, List.set_cons_succ]
    refine wpAnyH_take (i := 6) (v := ?vvm23) rfl (by kernel_rfl) (by kernel_rfl) (by kernel_rfl) (fun _ _ _ h => h) (Or.inl ⟨by rfl, ?yym23⟩) (by assumption) ?rrm23
    case yym23 => (intro w' hSw; (try dsimp only at hSw); go_simp; (try with_reducible rfl))
    try simp only [Act.put, List.setIfInBounds_toArray, List.set_cons_zero, List.set_cons_succ]
    refine wpAnyH_take (i := 7) (v := ?vvm24) rfl (by kernel_rfl) (by kernel_rfl) (by kernel_rfl) (fun _ _ _ h => h) (Or.inl ⟨by rfl, ?yym24⟩) (by assumption) ?rrm24
    case yym24 => (intro w' hSw; (try dsimp only at hSw); go_simp; (try with_reducible rfl))
    try simp only [Act.put, List.setIfInBounds_toArray, List.set_cons_zero, List.set_cons_succ]
    refine wpAnyH_ready (rs := [8]) (by kernel_rfl) (by simp) (AllReadyH.cons rfl (fun K hK => ?_) AllReadyH.nil)
    go_simp
    refine HT2.mono ?_
    clear HT2
    rintro e w7 ⟨os7, az7, rfl, hr7, hm7, hc7, ht7⟩
    obtain ⟨⟨oa3, on3, oc3, hos⟩, ⟨aa3, an3, ac3, haz⟩⟩ := And.intro hr7.so hr7.sa
    subst hos haz
    have hs7 := hid (hs6.out.turn hm7 hc7 ht7)
    have hS5 := hs7.out.s
    have hs8 := hid (hs7.out.quiet (al_ch w7 (.cells #[.int .i64 ta.kind, .int .i64 ta.num, .int .i64 ta.row, .slice oa1 on1 oc1, .slice aa1 an1 ac1, .int .i64 tb.kind, .int .i64 tb.num, .int .i64 tb.row, .slice oa3 on3 oc3, .slice aa3 an3 ac3] 27)))
    have hz7 := hid hc7.size
    replace hr7 := hid hr7
    clear hm7 hc7 ht7
    dsimp only
    clear hHeld
    refine hK.out _ _ ?hs (fun hHeld => ?_)
    case hs => (first | exact hS5 | trivial | ((try dsimp only); go_keep) | ((try dsimp only); simp [*, World.cell?_alloc_some, World.cell?_setCell_far, World.cell?_setCell_other]))
    clear hK K
    try simp only [Act.put, List.setIfInBounds_toArray, List.set_cons_zero, List.set_cons_succ]
    refine wpAnyH_ready (rs := [9]) (by kernel_rfl) (by simp) (AllReadyH.cons rfl (fun K hK => ?_) AllReadyH.nil)
    go_simp
    have hS5 := hs8.out.s
    obtain ⟨⟨p0, p1, p2, p3', p4⟩, pf⟩ := ty_cells hs8.out.st.b5
    clear hHeld
    refine hK.out _ _ ?hs (fun hHeld => ?_)
    case hs => (first | exact hS5 | trivial | ((try dsimp only); go_keep) | ((try dsimp only); simp [*, World.cell?_alloc_some, World.cell?_setCell_far, World.cell?_setCell_other]))
    clear hK K
    try simp only [Act.put, List.setIfInBounds_toArray, List.set_cons_zero, List.set_cons_succ]
    refine wpAnyH_take (i := 10) (v := ?vvm25) rfl (by kernel_rfl) (by kernel_rfl) (by kernel_rfl) (fun _ _ _ h => h) (Or.inl ⟨by rfl, ?yym25⟩) (by assumption) ?rrm25
    case yym25 => (intro w' hSw; (try dsimp only at hSw); go_simp; (try with_reducible rfl))
    try simp only [Act.put, List.setIfInBounds_toArray, List.set_cons_zero, List.set_cons_succ]
    refine wpAnyH_ready (rs := [11]) (by kernel_rfl) (by simp) (AllReadyH.cons rfl (fun K hK => ?_) AllReadyH.nil)
    go_simp
    have hS5 := hs8.out.s4 (.slice (some ⟨w7.heap.size, 0, none⟩) 2 2)
    clear hHeld
    refine hK.out _ _ ?hs (fun hHeld => ?_)
    case hs => (first | exact hS5 | trivial | ((try dsimp only); go_keep) | ((try dsimp only); simp [*, World.cell?_alloc_some, World.cell?_setCell_far, World.cell?_setCell_other]))
    clear hK K
    try simp only [Act.put, List.setIfInBounds_toArray, List.set_cons_zero, List.set_cons_succ]
    refine wpAnyH_done (by kernel_rfl) ?_ _
    clear hHeld
    clear hS0 hS5 p0 p1 p2 p3' p4 pf
    obtain ⟨hf, hb4, hb5⟩ := Fst.fin (r := (Gr.numOf N1.r v).1) h.out hs8.out hr7.out hxw hz7.out
    have e0 : ((.cells #[.int .i64 ta.kind, .int .i64 ta.num, .int .i64 ta.row, .slice oa1 on1 oc1, .slice aa1 an1 ac1, .int .i64 tb.kind, .int .i64 tb.num, .int .i64 tb.row, .slice oa3 on3 oc3, .slice aa3 an3 ac3] 27) : Obj) = .cells (tyC ta.kind ta.num ta.row (.slice oa1 on1 oc1) (.slice aa1 an1 ac1) ++ tyC tb.kind tb.num tb.row (.slice oa3 on3 oc3) (.slice aa3 an3 ac3)).toArray 27 := rfl
    rw [← e0] at hf hb4 hb5
    clear e0
    generalize (w7.alloc (.cells #[.int .i64 ta.kind, .int .i64 ta.num, .int .i64 ta.row, .slice oa1 on1 oc1, .slice aa1 an1 ac1, .int .i64 tb.kind, .int .i64 tb.num, .int .i64 tb.row, .slice oa3 on3 oc3, .slice aa3 an3 ac3] 27)).setCell ⟨x5, 4, none⟩ (.slice (some ⟨w7.heap.size, 0, none⟩) 2 2) = W9 at *
    replace hf := hid hf
    obtain ⟨⟨p0, p1, p2, p3', p4⟩, pf⟩ := ty_cells hb5
    obtain ⟨⟨q0, q1, q2, q3, q4⟩, qf⟩ := ty_cells hb4
    go_wp2
    refine Write_ret rfl rfl (set5_blk hb4) ?_
    rw [← hf3.out, hq]
    exact hf.out
end Go.Proofs.Ytcogpcalghfghaa

namespace Go.Proofs.Ytcogpcalghfghaa
open Go.RowKit
open Un (Bag Nm Gr)
variable {F : Nat → Prop}

theorem Write_any {T : Nat} (hT : T < 100000000) {G : Gr} (hG : G.OK) (hB : G.Bd T) {X : Gx} {wB mT mR : Nat} : ∀ k, WrOK G X wB mT mR k := by
  intro k
  induction k with
  | zero => intro w F i N N' t _ _ ht; cases ht
  | succ k ih =>
    intro w F i N N' t h hi ht hn
    rw [Gr.told] at ht
    split at ht
    · rename_i hk
      cases ht
      exact Write_var hG h hi hk (by omega)
    split at ht
    · rename_i hk
      cases ht
      exact Write_leaf hG h hi (t := .int) (by simp [Ty.P.kind]) (by simp [Ty.P.kind]) hk ⟨rfl, rfl⟩
    split at ht
    · rename_i hk
      cases ht
      exact Write_leaf hG h hi (t := .bool) (by simp [Ty.P.kind]) (by simp [Ty.P.kind]) hk ⟨rfl, rfl⟩
    split at ht
    · rename_i hk
      cases ht
      exact Write_leaf hG h hi (t := .unit) (by simp [Ty.P.kind]) (by simp [Ty.P.kind]) hk ⟨rfl, rfl⟩
    split at ht
    · rename_i hk
      obtain ⟨⟨a, M⟩, ha, e⟩ := Option.map_eq_some_iff.1 ht
      cases e
      exact Write_list ih hG h hi hk ha (by have : N.t.length + N.r.length + (1 + a.parts) < 1000000000 := hn; show N.t.length + N.r.length + a.parts < 1000000000; omega)
    split at ht
    · rename_i hk
      obtain ⟨⟨a, M⟩, ha, ht⟩ := Option.bind_eq_some_iff.1 ht
      obtain ⟨⟨b, M2⟩, hb, e⟩ := Option.map_eq_some_iff.1 ht
      cases e
      exact Write_pair ih hG h hi hk ha hb (by have : N.t.length + N.r.length + (1 + a.parts + b.parts) < 1000000000 := hn; show N.t.length + N.r.length + (a.parts + b.parts) < 1000000000; omega)
    · rename_i h0 h1 h2 h3 h4 h5
      have hk : G.kind (G.rep i) = 6 := by
        have := hG.kind_le _ (hG.rep_lt i hi)
        omega
      obtain ⟨⟨a, M⟩, ha, ht⟩ := Option.bind_eq_some_iff.1 ht
      obtain ⟨⟨b, M2⟩, hb, e⟩ := Option.map_eq_some_iff.1 ht
      cases e
      exact Write_fn hT hB ih hG h hi hk ha hb (by have : N.t.length + N.r.length + (1 + (G.whole (G.rep i)).1.length + a.parts + b.parts) < 1000000000 := hn; show N.t.length + N.r.length + (1 + a.parts + b.parts) < 1000000000; omega)

set_option maxHeartbeats 4000000 in
/-- A new writer. -/
theorem NewWriter_any {w : World} {G : Gr} {X : Gx} (h : PG w G X F) :
    Calls Try.prog 20 #[] w fun e w' => ∃ wB mT mR F', e = .returned (.pointer (some ⟨wB, 0, none⟩)) ∧ WrM w' G X F' wB mT mR ⟨[], []⟩ ∧ Ch (fun _ => False) w w' ∧ (∀ k, F k → F' k) ∧ w.heap.size ≤ wB ∧ w.heap.size ≤ mT ∧ w.heap.size ≤ mR := by
  have hm1 := fun w' : World => run_makeMap_plain (P := Try.prog) (w := w') 86
  have hm2 := fun w' : World => run_makeMap_plain (P := Try.prog) (w := w') 87
  replace h := hid h
  go_enter Try.func20, Try.ntmps20
  go_wp2
  go_ret
  have hc1 := al_ch w (.map #[] 0)
  have hc2 := al_ch (w.alloc (.map #[] 0)) (.map #[] 0)
  have hc3 := al_ch ((w.alloc (.map #[] 0)).alloc (.map #[] 0)) (.cells #[.map (some w.heap.size), .map (some (w.heap.size + 1))] 89)
  have hc := (hc1.trans hc2 (fun _ h => h.elim)).trans hc3 (fun _ h => h.elim)
  have b1 : (w.alloc (.map #[] 0)).heap[w.heap.size]? = some (.map #[] 0) := World.alloc_heap_new w _
  have b2 : ((w.alloc (.map #[] 0)).alloc (.map #[] 0)).heap[w.heap.size + 1]? = some (.map #[] 0) := al2_new w _ _
  have b3 : (((w.alloc (.map #[] 0)).alloc (.map #[] 0)).alloc (.cells #[.map (some w.heap.size), .map (some (w.heap.size + 1))] 89)).heap[w.heap.size + 1 + 1]? = some (.cells #[.map (some w.heap.size), .map (some (w.heap.size + 1))] 89) := by
    have := World.alloc_heap_new ((w.alloc (.map #[] 0)).alloc (.map #[] 0)) (.cells #[.map (some w.heap.size), .map (some (w.heap.size + 1))] 89)
    rwa [World.size_alloc, World.size_alloc] at this
  have sz : (((w.alloc (.map #[] 0)).alloc (.map #[] 0)).alloc (.cells #[.map (some w.heap.size), .map (some (w.heap.size + 1))] 89)).heap.size = w.heap.size + 1 + 1 + 1 := by simp
  refine ⟨_, w.heap.size, w.heap.size + 1, _, rfl, ⟨h.out.grow hc, b3, ⟨#[], 0, blk_alloc (blk_alloc b1), rfl⟩, ⟨#[], 0, blk_alloc b2, rfl⟩, by omega, .inr ⟨by omega, by omega⟩, .inr ⟨by omega, by omega⟩, .inr ⟨by omega, by omega⟩, (fun r hr => by cases hr), (fun r hr => by cases hr)⟩, hc, fun k hk => .inl hk, by omega, by omega, by omega⟩
end Go.Proofs.Ytcogpcalghfghaa
