import Derived.Test.YtejciampbnfbhaaHw
import Derived.Test.YtejciampbnfbhaaMJp
import Derived.Test.YtejciampbnfbhaaMDv
import Derived.Deep.Cut
import Derived.Test.YtejciampbnfbhaaMJzQ
set_option linter.unusedVariables false
set_option linter.unusedSimpArgs false
set_option maxRecDepth 100000
set_option maxHeartbeats 16000000
namespace Go.Proofs.Ytejciampbnfbhaa
open Go.RowKit Ie
theorem drew_size (w : World) : w.drew.heap.size = w.heap.size := rfl
def Hold (w1 w' : World) : Prop := ∀ k, k < w1.heap.size → w'.heap[k]? = w1.heap[k]?
theorem Hold.of {w1 w' : World} (h : Ch (fun _ => False) w1 w') : Hold w1 w' := fun k hk => h.same k hk (fun h => h)
theorem Hold.o {w1 w w' : World} {B : Nat} (h : Hold w1 w) (k : Ch (fun j => j = B) w w') (hB : w1.heap.size ≤ B) (hz : w1.heap.size ≤ w.heap.size := by first | omega | (simp only [al_size, drew_size] at *; omega)) : Hold w1 w' := fun i hi => (k.same i (Nat.lt_of_lt_of_le hi hz) (fun e => by omega)).trans (h i hi)
theorem Hold.cell {w1 w' : World} {g i : Nat} {v : Value} (hc : w1.cell? ⟨g, i, none⟩ = some v) : Hold w1 w' → w'.cell? ⟨g, i, none⟩ = some v := fun h => (World.cell?_of_block (a := ⟨g, i, none⟩) (h g (World.block_lt_of_cell? w1 ⟨g, i, none⟩ hc))).trans hc
def RdB (m B : Nat) (w : World) (t : Ty.P) (os az : Value) : Prop := isSl os ∧ isSl az ∧ ∀ w' : World, (∀ k, m ≤ k → k < w.heap.size → k ≠ B → w'.heap[k]? = w.heap[k]?) → IsT w' t os az
theorem Rb.skip {n m B : Nat} {w w4 : World} {t : Ty.P} {os az : Value} (h : Rb n w t os az) (hm : m ≤ n) (hB : B < n ∨ w.heap.size ≤ B) (hc : Ch (fun j => j = B) w w4) : RdB m B w4 t os az :=
 ⟨h.so, h.sa, fun w' hw => h.is w' fun k h1 h2 => (hw k (Nat.le_trans hm h1) (Nat.lt_of_lt_of_le h2 hc.size) (fun e => by omega)).trans (hc.same k h2 (fun e => by omega))⟩
structure TyMid (w1 w4 : World) (A B : Nat) (x y : Ty.P) (os1 az1 os2 az2 : Value) : Prop where
 t : w4.heap[B]? = some (tyB 6 0 0 (.slice none 0 0) (.slice (some ⟨A, 0, none⟩) 2 2))
 a : w4.heap[A]? = some (.cells #[.int .i64 x.kind, .int .i64 x.num, .int .i64 x.row, os1, az1, .int .i64 y.kind, .int .i64 y.num, .int .i64 y.row, os2, az2] 49 (0, 0))
 ne : A ≠ B
 lA : w1.heap.size ≤ A
 lB : w1.heap.size ≤ B
 c : Ch (fun _ => False) w1 w4
 r1 : RdB w1.heap.size B w4 x os1 az1
 r2 : RdB w1.heap.size B w4 y os2 az2
theorem Type_fn {k : Nat} (iha : TypeOK k) {w : World} {F : Nat → Prop} {T a b : Sy.Tr} {v : Value} {l : List Sy.Tr} {x y : Ty.P} (hk : T.kind = 29) (hks : T.kids = a :: b :: l) (h : Kids w F v T.kids) (hx : typ k a = some x) (hy : typ k b = some y) (hl : l.length < 1000000) :
  Calls Try.prog 48 #[nodeV T v] w fun en w' => ∃ os az, en = .returned (tyV 6 0 0 os az) ∧ Rb w.heap.size w' (.fn x y (Un.joinB [] (l.map (·.name))) 0) os az ∧ Ch (fun _ => False) w w' := by
 rw [hks] at h
 obtain ⟨g, c, hv, hFg, hn⟩ := h.cons (by simp)
 simp only [List.length_cons] at hv
 subst hv
 have j0 : (0 : Int) < (l.length : Int) + 1 + 1 := by omega
 have j1 : (1 : Int) < (l.length : Int) + 1 + 1 := by omega
 have hgw : g < w.heap.size := by
  obtain ⟨_, hk0, _⟩ := hn 0 a rfl
  exact hk0.lt
 have hb0 : ((w.alloc (nodeB T (.slice (some ⟨g, 0, none⟩) (l.length + 1 + 1) c))).alloc (tyB 0 0 0 (.slice none 0 0) (.slice none 0 0))).heap[w.heap.size]? = some (nodeB T (.slice (some ⟨g, 0, none⟩) (l.length + 1 + 1) c)) := blk_alloc (World.alloc_heap_new w _)
 have hb1 := World.alloc_heap_new (w.alloc (nodeB T (.slice (some ⟨g, 0, none⟩) (l.length + 1 + 1) c))) (tyB 0 0 0 (.slice none 0 0) (.slice none 0 0))
 have hq := (al_ch w (nodeB T (.slice (some ⟨g, 0, none⟩) (l.length + 1 + 1) c))).al (tyB 0 0 0 (.slice none 0 0) (.slice none 0 0))
 rw [al_size] at hb1
 have hz1 : ((w.alloc (nodeB T (.slice (some ⟨g, 0, none⟩) (l.length + 1 + 1) c))).alloc (tyB 0 0 0 (.slice none 0 0) (.slice none 0 0))).heap.size = w.heap.size + 1 + 1 := by simp
 obtain ⟨p0, -, -, -, p4⟩ := node_cells hb0
 rw [hk] at p0
 clear hk hks hb0
 replace hb1 := hid hb1
 replace hq := hid hq
 replace hn := hid hn
 replace iha := @hid _ @iha
 go_enter Try.func48, Try.ntmps48
 go_upto_region 1 with (fail)
 generalize (w.alloc (nodeB T (.slice (some ⟨g, 0, none⟩) (l.length + 1 + 1) c))).alloc (tyB 0 0 0 (.slice none 0 0) (.slice none 0 0)) = w1 at *
 go_upto_region 12 with (fail)
 obtain ⟨va, ⟨a0, a1, a2, a3, a4⟩, hka⟩ := hn.out 0 a rfl
 obtain ⟨vb, ⟨d0, d1, d2, d3, d4⟩, hkb⟩ := hn.out 1 b rfl
 have HAf := hid (fun (W : World) (hW : Ch (fun _ => False) w1 W) => iha.out ((hka.quiet hq.out).quiet hW) hx)
 have HBf := hid (fun (W : World) (hW : Ch (fun _ => False) w1 W) => iha.out ((hkb.quiet hq.out).quiet hW) hy)
 have hgl : g < w1.heap.size := by omega
 have hkid : Hid (∀ i T, l[i]? = some T → w1.cell? ⟨g, (i + 2) * 5 + 2, none⟩ = some (str T.name)) := hid fun i T hT => by
  obtain ⟨k, hk, _⟩ := hn.out (i + 2) T (by simpa using hT)
  exact cell_keeps hq.out hk.2.2.1
 go_cut [3] from 5 (fun s3 w4 => ∃ (A B : Nat) (os1 az1 os2 az2 : Value), s3 = .pointer (some ⟨B, 0, none⟩) ∧ Hid (TyMid w1 w4 A B x y os1 az1 os2 az2))
 case first =>
  have f4 := fun w' : World => Hold.cell (w' := w') p4
  have f0 := fun w' : World => Hold.cell (w' := w') (cell_keeps hq.out a0)
  have f1 := fun w' : World => Hold.cell (w' := w') (cell_keeps hq.out a1)
  have f2 := fun w' : World => Hold.cell (w' := w') (cell_keeps hq.out a2)
  have f3 := fun w' : World => Hold.cell (w' := w') (cell_keeps hq.out a3)
  have f5 := fun w' : World => Hold.cell (w' := w') (cell_keeps hq.out a4)
  have g0 := fun w' : World => Hold.cell (w' := w') (cell_keeps hq.out d0)
  have g1 := fun w' : World => Hold.cell (w' := w') (cell_keeps hq.out d1)
  have g2 := fun w' : World => Hold.cell (w' := w') (cell_keeps hq.out d2)
  have g3 := fun w' : World => Hold.cell (w' := w') (cell_keeps hq.out d3)
  have g4 := fun w' : World => Hold.cell (w' := w') (cell_keeps hq.out d4)
  replace hz1 := hid hz1
  have hcc := Ch.drew (fun _ => False) w1
  have hS0 := Hold.of hcc
  clear a0 a1 a2 a3 a4 d0 d1 d2 d3 d4 hka hkb p0 p4 hn
  refine wp_region_held_drew (S := (Hold w1)) (by kernel_rfl) (by first | trivial | ((try dsimp only); go_keep)) (fun hHeld => ?_)
  refine tk 0 rfl ?_
  refine tk 1 rfl ?_
  refine tk 2 rfl ?_
  refine tk 3 rfl ?_
  refine tk 5 rfl ?_
  refine tk 6 rfl ?_
  refine tk 7 rfl ?_
  refine tk 8 rfl ?_
  refine rd2 4 12 rfl (fun K hK => ?_) rfl (fun K hK => ?_)
  ·go_simp
   refine ((HAf.out _ hcc).mono ?_); rintro en w2 ⟨os1, az1, rfl, hr1, hc1⟩; obtain ⟨⟨oa1, on1, oc1, ho1⟩, ⟨aa1, an1, ac1, ha1⟩⟩ := And.intro hr1.so hr1.sa; subst ho1 ha1; have z1 := hc1.size; have hcc := hcc.trans hc1 (fun _ h => .inl h); have hS5 := Hold.of hcc; replace hr1 := hid hr1; have hd1 : Hid (Ch (fun _ => False) w2 w2) := Ch.refl _ _; clear hc1
   dsimp only
   clear hHeld; refine gn hK (fun hHeld => ?_); clear hK K; refine rd2 9 12 rfl (fun K hK => ?_) rfl (fun K hK => ?_)
   ·go_simp
    refine ((HBf.out _ hcc).mono ?_); rintro en w3 ⟨os2, az2, rfl, hr2, hc2⟩; obtain ⟨⟨oa2, on2, oc2, ho2⟩, ⟨aa2, an2, ac2, ha2⟩⟩ := And.intro hr2.so hr2.sa; subst ho2 ha2; have z2 := hc2.size; have hcc := hcc.trans hc2 (fun _ h => .inl h); have hS5 := Hold.of hcc; replace hr2 := hid hr2; have hd1 := hid (hd1.out.trans hc2 (fun _ h => .inl h)); have hd2 : Hid (Ch (fun _ => False) w3 w3) := Ch.refl _ _; clear hc2
    dsimp only
    clear hHeld; refine gn hK (fun hHeld => ?_); clear hK K; refine rd2 10 12 rfl (fun K hK => ?_) rfl (fun K hK => ?_)
    ·go_simp
     have hcc := hcc.al (.cells #[.int .i64 x.kind, .int .i64 x.num, .int .i64 x.row, .slice oa1 on1 oc1, .slice aa1 an1 ac1, .int .i64 y.kind, .int .i64 y.num, .int .i64 y.row, .slice oa2 on2 oc2, .slice aa2 an2 ac2] 49); have hS5 := Hold.of hcc; have hA := World.alloc_heap_new w3 (.cells #[.int .i64 x.kind, .int .i64 x.num, .int .i64 x.row, .slice oa1 on1 oc1, .slice aa1 an1 ac1, .int .i64 y.kind, .int .i64 y.num, .int .i64 y.row, .slice oa2 on2 oc2, .slice aa2 an2 ac2] 49)
     try have hd1 := hid (hd1.out.al (.cells #[.int .i64 x.kind, .int .i64 x.num, .int .i64 x.row, .slice oa1 on1 oc1, .slice aa1 an1 ac1, .int .i64 y.kind, .int .i64 y.num, .int .i64 y.row, .slice oa2 on2 oc2, .slice aa2 an2 ac2] 49))
     try have hd2 := hid (hd2.out.al (.cells #[.int .i64 x.kind, .int .i64 x.num, .int .i64 x.row, .slice oa1 on1 oc1, .slice aa1 an1 ac1, .int .i64 y.kind, .int .i64 y.num, .int .i64 y.row, .slice oa2 on2 oc2, .slice aa2 an2 ac2] 49))
     clear hHeld; refine gn hK (fun hHeld => ?_); clear hK K; refine tk 11 rfl ?_; refine rd1 12 rfl (fun K hK => ?_)
     go_simp
     have hcc := hcc.al ((tyB 0 0 0 (.slice none 0 0) (.slice none 0 0))); have hS5 := Hold.of hcc; have hT := World.alloc_heap_new (w3.alloc (.cells #[.int .i64 x.kind, .int .i64 x.num, .int .i64 x.row, .slice oa1 on1 oc1, .slice aa1 an1 ac1, .int .i64 y.kind, .int .i64 y.num, .int .i64 y.row, .slice oa2 on2 oc2, .slice aa2 an2 ac2] 49)) ((tyB 0 0 0 (.slice none 0 0) (.slice none 0 0))); have hA := blk_alloc (x := (tyB 0 0 0 (.slice none 0 0) (.slice none 0 0))) hA
     try have hd1 := hid (hd1.out.al ((tyB 0 0 0 (.slice none 0 0) (.slice none 0 0))))
     try have hd2 := hid (hd2.out.al ((tyB 0 0 0 (.slice none 0 0) (.slice none 0 0))))
     clear hHeld; refine gn hK (fun hHeld => ?_); clear hK K
     try simp only [al_size, drew_size] at hT
     try simp only [al_size, drew_size] at hA
     generalize ((w3.alloc (.cells #[.int .i64 x.kind, .int .i64 x.num, .int .i64 x.row, .slice oa1 on1 oc1, .slice aa1 an1 ac1, .int .i64 y.kind, .int .i64 y.num, .int .i64 y.row, .slice oa2 on2 oc2, .slice aa2 an2 ac2] 49)).alloc ((tyB 0 0 0 (.slice none 0 0) (.slice none 0 0)))) = wx at *; have zx := hcc.size; obtain ⟨⟨u0, u1, u2, u3, u4⟩, uf⟩ := ty_cells hT; refine rd1 13 rfl (fun K hK => ?_)
     go_simp
     have hst := set5_ch (O := fun j => j = (w3.heap.size + 1)) (k := 6) (n := 0) (r := 0) (os := .slice none 0 0) (az := .slice (some ⟨(w3.heap.size), 0, none⟩) 2 2) (Ch.refl _ wx) (.inl rfl); have hS5 := Hold.o (Hold.of hcc) hst (by first | omega | (simp only [al_size, drew_size] at *; omega)); clear hHeld; refine gn hK (fun hHeld => ?_); clear hK K; refine wpAnyH_done (by kernel_rfl) ?_ _; clear hHeld; have hfT := set5_blk (k' := 6) (n' := 0) (r' := 0) (os' := .slice none 0 0) (az' := .slice (some ⟨(w3.heap.size), 0, none⟩) 2 2) hT; have hne : (w3.heap.size) ≠ (w3.heap.size + 1) := (by first | omega | (simp only [al_size, drew_size] at *; omega)); have hfA := (hst.same _ (Array.getElem?_eq_some_iff.1 hA).1 hne).trans hA; have hf1 := hr1.out.skip (m := w1.heap.size) (B := (w3.heap.size + 1)) (by first | omega | (simp only [al_size, drew_size] at *; omega)) (by first | omega | (simp only [al_size, drew_size] at *; omega)) ((hd1.out.mono (fun _ h => h.elim)).trans hst (fun _ h => .inl h)); have hf2 := hr2.out.skip (m := w1.heap.size) (B := (w3.heap.size + 1)) (by first | omega | (simp only [al_size, drew_size] at *; omega)) (by first | omega | (simp only [al_size, drew_size] at *; omega)) ((hd2.out.mono (fun _ h => h.elim)).trans hst (fun _ h => .inl h)); have hfin := hid (TyMid.mk hfT hfA hne (by first | omega | (simp only [al_size, drew_size] at *; omega)) (by first | omega | (simp only [al_size, drew_size] at *; omega)) (hcc.old hst (fun j e => by subst e; first | omega | (simp only [al_size, drew_size] at *; omega))) hf1 hf2); clear u0 u1 u2 u3 u4 uf hS5
     go_wp2_with fail
     go_meet
     case rel => exact ⟨_, _, _, _, _, _, by first | rfl | simp, hfin⟩
    ·go_simp
     have hcc := hcc.al ((tyB 0 0 0 (.slice none 0 0) (.slice none 0 0))); have hS5 := Hold.of hcc; have hT := World.alloc_heap_new w3 ((tyB 0 0 0 (.slice none 0 0) (.slice none 0 0)))
     try have hd1 := hid (hd1.out.al ((tyB 0 0 0 (.slice none 0 0) (.slice none 0 0))))
     try have hd2 := hid (hd2.out.al ((tyB 0 0 0 (.slice none 0 0) (.slice none 0 0))))
     clear hHeld; refine gn hK (fun hHeld => ?_); clear hK K; refine rd1 10 rfl (fun K hK => ?_)
     go_simp
     have hcc := hcc.al (.cells #[.int .i64 x.kind, .int .i64 x.num, .int .i64 x.row, .slice oa1 on1 oc1, .slice aa1 an1 ac1, .int .i64 y.kind, .int .i64 y.num, .int .i64 y.row, .slice oa2 on2 oc2, .slice aa2 an2 ac2] 49); have hS5 := Hold.of hcc; have hA := World.alloc_heap_new (w3.alloc ((tyB 0 0 0 (.slice none 0 0) (.slice none 0 0)))) (.cells #[.int .i64 x.kind, .int .i64 x.num, .int .i64 x.row, .slice oa1 on1 oc1, .slice aa1 an1 ac1, .int .i64 y.kind, .int .i64 y.num, .int .i64 y.row, .slice oa2 on2 oc2, .slice aa2 an2 ac2] 49); have hT := blk_alloc (x := .cells #[.int .i64 x.kind, .int .i64 x.num, .int .i64 x.row, .slice oa1 on1 oc1, .slice aa1 an1 ac1, .int .i64 y.kind, .int .i64 y.num, .int .i64 y.row, .slice oa2 on2 oc2, .slice aa2 an2 ac2] 49) hT
     try have hd1 := hid (hd1.out.al (.cells #[.int .i64 x.kind, .int .i64 x.num, .int .i64 x.row, .slice oa1 on1 oc1, .slice aa1 an1 ac1, .int .i64 y.kind, .int .i64 y.num, .int .i64 y.row, .slice oa2 on2 oc2, .slice aa2 an2 ac2] 49))
     try have hd2 := hid (hd2.out.al (.cells #[.int .i64 x.kind, .int .i64 x.num, .int .i64 x.row, .slice oa1 on1 oc1, .slice aa1 an1 ac1, .int .i64 y.kind, .int .i64 y.num, .int .i64 y.row, .slice oa2 on2 oc2, .slice aa2 an2 ac2] 49))
     clear hHeld; refine gn hK (fun hHeld => ?_); clear hK K; refine tk 11 rfl ?_
     try simp only [al_size, drew_size] at hT
     try simp only [al_size, drew_size] at hA
     generalize ((w3.alloc ((tyB 0 0 0 (.slice none 0 0) (.slice none 0 0)))).alloc (.cells #[.int .i64 x.kind, .int .i64 x.num, .int .i64 x.row, .slice oa1 on1 oc1, .slice aa1 an1 ac1, .int .i64 y.kind, .int .i64 y.num, .int .i64 y.row, .slice oa2 on2 oc2, .slice aa2 an2 ac2] 49)) = wx at *; have zx := hcc.size; obtain ⟨⟨u0, u1, u2, u3, u4⟩, uf⟩ := ty_cells hT; refine rd1 13 rfl (fun K hK => ?_)
     go_simp
     have hst := set5_ch (O := fun j => j = (w3.heap.size)) (k := 6) (n := 0) (r := 0) (os := .slice none 0 0) (az := .slice (some ⟨(w3.heap.size + 1), 0, none⟩) 2 2) (Ch.refl _ wx) (.inl rfl); have hS5 := Hold.o (Hold.of hcc) hst (by first | omega | (simp only [al_size, drew_size] at *; omega)); clear hHeld; refine gn hK (fun hHeld => ?_); clear hK K; refine wpAnyH_done (by kernel_rfl) ?_ _; clear hHeld; have hfT := set5_blk (k' := 6) (n' := 0) (r' := 0) (os' := .slice none 0 0) (az' := .slice (some ⟨(w3.heap.size + 1), 0, none⟩) 2 2) hT; have hne : (w3.heap.size + 1) ≠ (w3.heap.size) := (by first | omega | (simp only [al_size, drew_size] at *; omega)); have hfA := (hst.same _ (Array.getElem?_eq_some_iff.1 hA).1 hne).trans hA; have hf1 := hr1.out.skip (m := w1.heap.size) (B := (w3.heap.size)) (by first | omega | (simp only [al_size, drew_size] at *; omega)) (by first | omega | (simp only [al_size, drew_size] at *; omega)) ((hd1.out.mono (fun _ h => h.elim)).trans hst (fun _ h => .inl h)); have hf2 := hr2.out.skip (m := w1.heap.size) (B := (w3.heap.size)) (by first | omega | (simp only [al_size, drew_size] at *; omega)) (by first | omega | (simp only [al_size, drew_size] at *; omega)) ((hd2.out.mono (fun _ h => h.elim)).trans hst (fun _ h => .inl h)); have hfin := hid (TyMid.mk hfT hfA hne (by first | omega | (simp only [al_size, drew_size] at *; omega)) (by first | omega | (simp only [al_size, drew_size] at *; omega)) (hcc.old hst (fun j e => by subst e; first | omega | (simp only [al_size, drew_size] at *; omega))) hf1 hf2); clear u0 u1 u2 u3 u4 uf hS5
     go_wp2_with fail
     go_meet
     case rel => exact ⟨_, _, _, _, _, _, by first | rfl | simp, hfin⟩
   ·go_simp
    have hcc := hcc.al ((tyB 0 0 0 (.slice none 0 0) (.slice none 0 0))); have hS5 := Hold.of hcc; have hT := World.alloc_heap_new w2 ((tyB 0 0 0 (.slice none 0 0) (.slice none 0 0)))
    try have hd1 := hid (hd1.out.al ((tyB 0 0 0 (.slice none 0 0) (.slice none 0 0))))
    try have hd2 := hid (hd2.out.al ((tyB 0 0 0 (.slice none 0 0) (.slice none 0 0))))
    clear hHeld; refine gn hK (fun hHeld => ?_); clear hK K; refine rd1 9 rfl (fun K hK => ?_)
    go_simp
    refine ((HBf.out _ hcc).mono ?_); rintro en w3 ⟨os2, az2, rfl, hr2, hc2⟩; obtain ⟨⟨oa2, on2, oc2, ho2⟩, ⟨aa2, an2, ac2, ha2⟩⟩ := And.intro hr2.so hr2.sa; subst ho2 ha2; have z2 := hc2.size; have hcc := hcc.trans hc2 (fun _ h => .inl h); have hS5 := Hold.of hcc; have hT := (hc2.same _ (Array.getElem?_eq_some_iff.1 hT).1 (fun h => h)).trans hT; replace hr2 := hid hr2; have hd1 := hid (hd1.out.trans hc2 (fun _ h => .inl h)); have hd2 : Hid (Ch (fun _ => False) w3 w3) := Ch.refl _ _; clear hc2
    dsimp only
    clear hHeld; refine gn hK (fun hHeld => ?_); clear hK K; refine rd1 10 rfl (fun K hK => ?_)
    go_simp
    have hcc := hcc.al (.cells #[.int .i64 x.kind, .int .i64 x.num, .int .i64 x.row, .slice oa1 on1 oc1, .slice aa1 an1 ac1, .int .i64 y.kind, .int .i64 y.num, .int .i64 y.row, .slice oa2 on2 oc2, .slice aa2 an2 ac2] 49); have hS5 := Hold.of hcc; have hA := World.alloc_heap_new w3 (.cells #[.int .i64 x.kind, .int .i64 x.num, .int .i64 x.row, .slice oa1 on1 oc1, .slice aa1 an1 ac1, .int .i64 y.kind, .int .i64 y.num, .int .i64 y.row, .slice oa2 on2 oc2, .slice aa2 an2 ac2] 49); have hT := blk_alloc (x := .cells #[.int .i64 x.kind, .int .i64 x.num, .int .i64 x.row, .slice oa1 on1 oc1, .slice aa1 an1 ac1, .int .i64 y.kind, .int .i64 y.num, .int .i64 y.row, .slice oa2 on2 oc2, .slice aa2 an2 ac2] 49) hT
    try have hd1 := hid (hd1.out.al (.cells #[.int .i64 x.kind, .int .i64 x.num, .int .i64 x.row, .slice oa1 on1 oc1, .slice aa1 an1 ac1, .int .i64 y.kind, .int .i64 y.num, .int .i64 y.row, .slice oa2 on2 oc2, .slice aa2 an2 ac2] 49))
    try have hd2 := hid (hd2.out.al (.cells #[.int .i64 x.kind, .int .i64 x.num, .int .i64 x.row, .slice oa1 on1 oc1, .slice aa1 an1 ac1, .int .i64 y.kind, .int .i64 y.num, .int .i64 y.row, .slice oa2 on2 oc2, .slice aa2 an2 ac2] 49))
    clear hHeld; refine gn hK (fun hHeld => ?_); clear hK K; refine tk 11 rfl ?_
    try simp only [al_size, drew_size] at hT
    try simp only [al_size, drew_size] at hA
    generalize (w3.alloc (.cells #[.int .i64 x.kind, .int .i64 x.num, .int .i64 x.row, .slice oa1 on1 oc1, .slice aa1 an1 ac1, .int .i64 y.kind, .int .i64 y.num, .int .i64 y.row, .slice oa2 on2 oc2, .slice aa2 an2 ac2] 49)) = wx at *; have zx := hcc.size; obtain ⟨⟨u0, u1, u2, u3, u4⟩, uf⟩ := ty_cells hT; refine rd1 13 rfl (fun K hK => ?_)
    go_simp
    have hst := set5_ch (O := fun j => j = (w2.heap.size)) (k := 6) (n := 0) (r := 0) (os := .slice none 0 0) (az := .slice (some ⟨(w3.heap.size), 0, none⟩) 2 2) (Ch.refl _ wx) (.inl rfl); have hS5 := Hold.o (Hold.of hcc) hst (by first | omega | (simp only [al_size, drew_size] at *; omega)); clear hHeld; refine gn hK (fun hHeld => ?_); clear hK K; refine wpAnyH_done (by kernel_rfl) ?_ _; clear hHeld; have hfT := set5_blk (k' := 6) (n' := 0) (r' := 0) (os' := .slice none 0 0) (az' := .slice (some ⟨(w3.heap.size), 0, none⟩) 2 2) hT; have hne : (w3.heap.size) ≠ (w2.heap.size) := (by first | omega | (simp only [al_size, drew_size] at *; omega)); have hfA := (hst.same _ (Array.getElem?_eq_some_iff.1 hA).1 hne).trans hA; have hf1 := hr1.out.skip (m := w1.heap.size) (B := (w2.heap.size)) (by first | omega | (simp only [al_size, drew_size] at *; omega)) (by first | omega | (simp only [al_size, drew_size] at *; omega)) ((hd1.out.mono (fun _ h => h.elim)).trans hst (fun _ h => .inl h)); have hf2 := hr2.out.skip (m := w1.heap.size) (B := (w2.heap.size)) (by first | omega | (simp only [al_size, drew_size] at *; omega)) (by first | omega | (simp only [al_size, drew_size] at *; omega)) ((hd2.out.mono (fun _ h => h.elim)).trans hst (fun _ h => .inl h)); have hfin := hid (TyMid.mk hfT hfA hne (by first | omega | (simp only [al_size, drew_size] at *; omega)) (by first | omega | (simp only [al_size, drew_size] at *; omega)) (hcc.old hst (fun j e => by subst e; first | omega | (simp only [al_size, drew_size] at *; omega))) hf1 hf2); clear u0 u1 u2 u3 u4 uf hS5
    go_wp2_with fail
    go_meet
    case rel => exact ⟨_, _, _, _, _, _, by first | rfl | simp, hfin⟩
  ·go_simp
   have hcc := hcc.al ((tyB 0 0 0 (.slice none 0 0) (.slice none 0 0))); have hS5 := Hold.of hcc; have hT := World.alloc_heap_new w1.drew ((tyB 0 0 0 (.slice none 0 0) (.slice none 0 0)))
   try have hd1 := hid (hd1.out.al ((tyB 0 0 0 (.slice none 0 0) (.slice none 0 0))))
   try have hd2 := hid (hd2.out.al ((tyB 0 0 0 (.slice none 0 0) (.slice none 0 0))))
   clear hHeld; refine gn hK (fun hHeld => ?_); clear hK K; refine rd1 4 rfl (fun K hK => ?_)
   go_simp
   refine ((HAf.out _ hcc).mono ?_); rintro en w2 ⟨os1, az1, rfl, hr1, hc1⟩; obtain ⟨⟨oa1, on1, oc1, ho1⟩, ⟨aa1, an1, ac1, ha1⟩⟩ := And.intro hr1.so hr1.sa; subst ho1 ha1; have z1 := hc1.size; have hcc := hcc.trans hc1 (fun _ h => .inl h); have hS5 := Hold.of hcc; have hT := (hc1.same _ (Array.getElem?_eq_some_iff.1 hT).1 (fun h => h)).trans hT; replace hr1 := hid hr1; have hd1 : Hid (Ch (fun _ => False) w2 w2) := Ch.refl _ _; clear hc1
   dsimp only
   clear hHeld; refine gn hK (fun hHeld => ?_); clear hK K; refine rd1 9 rfl (fun K hK => ?_)
   go_simp
   refine ((HBf.out _ hcc).mono ?_); rintro en w3 ⟨os2, az2, rfl, hr2, hc2⟩; obtain ⟨⟨oa2, on2, oc2, ho2⟩, ⟨aa2, an2, ac2, ha2⟩⟩ := And.intro hr2.so hr2.sa; subst ho2 ha2; have z2 := hc2.size; have hcc := hcc.trans hc2 (fun _ h => .inl h); have hS5 := Hold.of hcc; have hT := (hc2.same _ (Array.getElem?_eq_some_iff.1 hT).1 (fun h => h)).trans hT; replace hr2 := hid hr2; have hd1 := hid (hd1.out.trans hc2 (fun _ h => .inl h)); have hd2 : Hid (Ch (fun _ => False) w3 w3) := Ch.refl _ _; clear hc2
   dsimp only
   clear hHeld; refine gn hK (fun hHeld => ?_); clear hK K; refine rd1 10 rfl (fun K hK => ?_)
   go_simp
   have hcc := hcc.al (.cells #[.int .i64 x.kind, .int .i64 x.num, .int .i64 x.row, .slice oa1 on1 oc1, .slice aa1 an1 ac1, .int .i64 y.kind, .int .i64 y.num, .int .i64 y.row, .slice oa2 on2 oc2, .slice aa2 an2 ac2] 49); have hS5 := Hold.of hcc; have hA := World.alloc_heap_new w3 (.cells #[.int .i64 x.kind, .int .i64 x.num, .int .i64 x.row, .slice oa1 on1 oc1, .slice aa1 an1 ac1, .int .i64 y.kind, .int .i64 y.num, .int .i64 y.row, .slice oa2 on2 oc2, .slice aa2 an2 ac2] 49); have hT := blk_alloc (x := .cells #[.int .i64 x.kind, .int .i64 x.num, .int .i64 x.row, .slice oa1 on1 oc1, .slice aa1 an1 ac1, .int .i64 y.kind, .int .i64 y.num, .int .i64 y.row, .slice oa2 on2 oc2, .slice aa2 an2 ac2] 49) hT
   try have hd1 := hid (hd1.out.al (.cells #[.int .i64 x.kind, .int .i64 x.num, .int .i64 x.row, .slice oa1 on1 oc1, .slice aa1 an1 ac1, .int .i64 y.kind, .int .i64 y.num, .int .i64 y.row, .slice oa2 on2 oc2, .slice aa2 an2 ac2] 49))
   try have hd2 := hid (hd2.out.al (.cells #[.int .i64 x.kind, .int .i64 x.num, .int .i64 x.row, .slice oa1 on1 oc1, .slice aa1 an1 ac1, .int .i64 y.kind, .int .i64 y.num, .int .i64 y.row, .slice oa2 on2 oc2, .slice aa2 an2 ac2] 49))
   clear hHeld; refine gn hK (fun hHeld => ?_); clear hK K; refine tk 11 rfl ?_
   try simp only [al_size, drew_size] at hT
   try simp only [al_size, drew_size] at hA
   generalize (w3.alloc (.cells #[.int .i64 x.kind, .int .i64 x.num, .int .i64 x.row, .slice oa1 on1 oc1, .slice aa1 an1 ac1, .int .i64 y.kind, .int .i64 y.num, .int .i64 y.row, .slice oa2 on2 oc2, .slice aa2 an2 ac2] 49)) = wx at *; have zx := hcc.size; obtain ⟨⟨u0, u1, u2, u3, u4⟩, uf⟩ := ty_cells hT; refine rd1 13 rfl (fun K hK => ?_)
   go_simp
   have hst := set5_ch (O := fun j => j = (w1.heap.size)) (k := 6) (n := 0) (r := 0) (os := .slice none 0 0) (az := .slice (some ⟨(w3.heap.size), 0, none⟩) 2 2) (Ch.refl _ wx) (.inl rfl); have hS5 := Hold.o (Hold.of hcc) hst (by first | omega | (simp only [al_size, drew_size] at *; omega)); clear hHeld; refine gn hK (fun hHeld => ?_); clear hK K; refine wpAnyH_done (by kernel_rfl) ?_ _; clear hHeld; have hfT := set5_blk (k' := 6) (n' := 0) (r' := 0) (os' := .slice none 0 0) (az' := .slice (some ⟨(w3.heap.size), 0, none⟩) 2 2) hT; have hne : (w3.heap.size) ≠ (w1.heap.size) := (by first | omega | (simp only [al_size, drew_size] at *; omega)); have hfA := (hst.same _ (Array.getElem?_eq_some_iff.1 hA).1 hne).trans hA; have hf1 := hr1.out.skip (m := w1.heap.size) (B := (w1.heap.size)) (by first | omega | (simp only [al_size, drew_size] at *; omega)) (by first | omega | (simp only [al_size, drew_size] at *; omega)) ((hd1.out.mono (fun _ h => h.elim)).trans hst (fun _ h => .inl h)); have hf2 := hr2.out.skip (m := w1.heap.size) (B := (w1.heap.size)) (by first | omega | (simp only [al_size, drew_size] at *; omega)) (by first | omega | (simp only [al_size, drew_size] at *; omega)) ((hd2.out.mono (fun _ h => h.elim)).trans hst (fun _ h => .inl h)); have hfin := hid (TyMid.mk hfT hfA hne (by first | omega | (simp only [al_size, drew_size] at *; omega)) (by first | omega | (simp only [al_size, drew_size] at *; omega)) (hcc.old hst (fun j e => by subst e; first | omega | (simp only [al_size, drew_size] at *; omega))) hf1 hf2); clear u0 u1 u2 u3 u4 uf hS5
   go_wp2_with fail
   go_meet
   case rel => exact ⟨_, _, _, _, _, _, by first | rfl | simp, hfin⟩
 case rest =>
  obtain ⟨A, B, os1, az1, os2, az2, rfl, hm⟩ := hcut
  clear a0 a1 a2 a3 a4 d0 d1 d2 d3 d4 hka hkb hn
  generalize wc = w4 at *
  go_wp2_with fail
  go_loopg [4] (l.length + 1) (fun q v4 wr => ∃ (i : Nat) (vo : Value), v4 = .int .i64 ((i : Int) + 2) ∧ i ≤ l.length ∧ q = l.length + 1 - i ∧ Hid (wr.heap[B]? = some (tyB 6 0 0 vo (.slice (some ⟨A, 0, none⟩) 2 2))) ∧ Hid (wr.ownsRow 0 9 1 vo (Un.joinB [] ((l.map (·.name)).take i)).length (strs (Un.joinB [] ((l.map (·.name)).take i))) ∧ (∀ k, vo.ownBlock = some k → w4.heap.size ≤ k) ∧ Ch (fun j => j = B) w4 wr))
  case atStart => exact ⟨0, _, by first | rfl | simp, by omega, by omega, hm.out.t, hid ⟨World.ownsRow_nil _ _ _ _, fun k hk => (by cases hk), Ch.refl _ _⟩⟩
  case round =>
   obtain ⟨i, vo, rfl, hi, rfl, hT, hR⟩ := hrel; have hcw := hid (hm.out.c.old hR.out.2.2 (fun j e => by subst e; exact hm.out.lB)); have p4 := cell_keeps hcw.out p4
   by_cases hlt : i < l.length
   ·obtain ⟨s, hs⟩ : ∃ s, l[i]? = some s := ⟨_, List.getElem?_eq_getElem hlt⟩
    have hnm := cell_keeps hcw.out (hkid.out i s hs); obtain ⟨⟨u0, u1, u2, u3, u4⟩, uf⟩ := ty_cells hT.out; have hlen : (Un.joinB [] ((l.map (·.name)).take i)).length < 1000000000 := by rw [Un.joinB_length]; simp; omega
    have hIN := hid (fun q => insert_any (wr.drewN q) vo _ s.name ((SV.of_row hR.out.1).keep ((Ch.refl (fun _ => False) wr).dn q) (fun _ _ h => h)) hlen); have k0 : (0 : Int) ≤ (i : Int) + 2 := by omega
    have k1 : (i : Int) + 2 < (l.length : Int) + 1 + 1 := by omega
    have k2 : ((i : Int) + 2).toNat = i + 2 := by omega
    have hBr := (Array.getElem?_eq_some_iff.1 hT.out).1; have hs2 : (l.map (·.name))[i]? = some s.name := by rw [List.getElem?_map, hs]; rfl
    replace hs2 := hid hs2; replace hs := hid hs; clear hlen
    go_upto_region 16 with (fail)
    refine wp_region_split 8 3 (by kernel_rfl) rfl (by kernel_rfl) (by kernel_rfl) (by kernel_rfl) ?_; simp only [List.take_succ_cons, List.take_zero]
    repeat (gi_big_quiet_step (fail))
    refine wpQuietIn_nil ?_; intro _ hw'; obtain ⟨nq1, hw''⟩ := hw'; subst hw''; refine wpAnyIn_ready (rs := [8]) (by kernel_rfl) (by simp) (AllReadyIn.cons rfl (fun K hK => ?_) AllReadyIn.nil)
    go_simp
    refine ⟨by first | trivial | rfl, rfl, callsIn_wide.2 ((hIN.out _).mono ?_)⟩; rintro en w5 ⟨v5, rfl, hF⟩; obtain ⟨ua, un, uc, rfl⟩ := fresh_slice hF; have hT5 : w5.heap[B]? = some (tyB 6 0 0 vo (.slice (some ⟨A, 0, none⟩) 2 2)) := (hF.2.1.same _ (Array.getElem?_eq_some_iff.1 hT.out).1 (fun h => h)).trans hT.out; obtain ⟨⟨u0, u1, u2, u3, u4⟩, uf⟩ := ty_cells hT5
    dsimp only
    refine hK _ _ ?_; clear hK K; refine wpAnyIn_ready (rs := [9]) (by kernel_rfl) (by simp) (AllReadyIn.cons rfl (fun K hK => ?_) AllReadyIn.nil)
    go_simp
    refine hK _ _ ?_; clear hK K; refine wpAnyIn_ready (rs := [10]) (by kernel_rfl) (by simp) (AllReadyIn.cons rfl (fun K hK => ?_) AllReadyIn.nil)
    go_simp
    refine hK _ _ ?_; clear hK K; refine wpAnyIn_done (by kernel_rfl) ?_ _; clear u0 u1 u2 u3 u4 uf; have hT6 := ty_set (i := 3) (v := .slice ua un uc) hT5 rfl
    have hvB : ∀ k, (Value.slice ua un uc).ownBlock = some k → k ≠ B := fun k hk e => by
     have h1 := hF.2.2 k hk; have h2 : (wr.drewN nq1).heap.size = wr.heap.size := by simp
     omega
    have hR6 := ownsRow_keep (w' := w5.setCell ⟨B, 3, none⟩ (.slice ua un uc)) hF.1 (fun k hk => Below.heap_setCell w5 _ _ k (hvB k hk))
    have hb6 : ∀ k, (Value.slice ua un uc).ownBlock = some k → w4.heap.size ≤ k := fun k hk => by
     have h1 := hF.2.2 k hk; have h2 : (wr.drewN nq1).heap.size = wr.heap.size := by simp
     have h3 := hR.out.2.2.size; omega
    have hc6 := ((hR.out.2.2.trans ((Ch.refl (fun _ => False) wr).dn nq1) (fun _ h => h.elim)).trans hF.2.1 (fun _ h => h.elim)).trans (Ch.setCell (O := fun j => j = B) w5 ⟨B, 3, none⟩ (.slice ua un uc) rfl) (fun _ h => .inl h); have hfin := hid (And.intro hR6 (And.intro hb6 hc6)); replace hT6 := hid hT6; clear hT5 hvB hR6 hb6 hc6 hF
    go_wp2_with fail
    go_roundg (l.length - i)
    case measure => omega
    case rel =>
     refine ⟨i + 1, _, by simp; omega, by omega, by omega, hT6, ?_⟩; rw [joinB_take hs2.out]; exact hfin
   ·obtain rfl : i = l.length := by omega
    have k1 : ¬ (l.length : Int) + 2 < (l.length : Int) + 1 + 1 := by omega
    obtain ⟨⟨u0, u1, u2, u3, u4⟩, uf⟩ := ty_cells hT.out; have hbr : Hid (wr.heap[w.heap.size + 1]? = some (tyB 0 0 0 (.slice none 0 0) (.slice none 0 0))) := hid ((hcw.out.same _ (by omega) (fun h => h)).trans hb1.out); obtain ⟨⟨y0, y1, y2, y3, y4⟩, yf⟩ := ty_cells hbr.out; obtain ⟨oa, oc, on, rfl⟩ : isSl vo := by obtain ⟨a, c, e, _⟩ := row_slice hR.out.1; exact ⟨_, _, _, e⟩
    go_wp2_with fail
    have hz4 := hm.out.c.size; have lA := hm.out.lA; have lB := hm.out.lB; have hst := set5_ch (O := fun j => j = w.heap.size + 1) (k := 6) (n := 0) (r := 0) (os := .slice oa oc on) (az := .slice (some ⟨A, 0, none⟩) 2 2) (Ch.refl _ wr) (.inl rfl); have h4 : ∀ k, w1.heap.size ≤ k → k < w4.heap.size → k ≠ B → (set5 wr (w.heap.size + 1) 6 0 0 (.slice oa oc on) (.slice (some ⟨A, 0, none⟩) 2 2)).heap[k]? = w4.heap[k]? := fun k h1 h2 h3 => (hst.same k (Nat.lt_of_lt_of_le h2 hR.out.2.2.size) (fun e => by omega)).trans (hR.out.2.2.same k h2 h3); have hrb : ∀ {t : Ty.P} {os az : Value}, RdB w1.heap.size B w4 t os az → Rb w.heap.size (set5 wr (w.heap.size + 1) 6 0 0 (.slice oa oc on) (.slice (some ⟨A, 0, none⟩) 2 2)) t os az := fun h => ⟨h.1, h.2.1, fun w' hw => h.2.2 w' fun k h1 h2 h3 => (hw k (by omega) (Nat.lt_of_lt_of_le h2 (Nat.le_trans hR.out.2.2.size hst.size))).trans (h4 k h1 h2 h3)⟩; have hRf := hR.out; rw [show (l.map (·.name)).take l.length = l.map (·.name) from List.take_of_length_le (by simp)] at hRf; refine Type_ret (k := 6) (n := 0) (r := 0) (os := .slice oa oc on) (az := .slice (some ⟨A, 0, none⟩) 2 2) rfl rfl (set5_blk hbr.out) ⟨_, _, rfl, Rb.fn (ownsRow_keep hRf.1 (fun k hk => hst.same k (ownsRow_lt hRf.1 hk) (fun e => by have := hRf.2.1 k hk; omega))) (fun k hk => by have := hRf.2.1 k hk; omega) (hrb hm.out.r1) (hrb hm.out.r2) ⟨two_own ((h4 A lA (Array.getElem?_eq_some_iff.1 hm.out.a).1 hm.out.ne).trans hm.out.a), fun k hk => by have : A = k := Option.some.inj hk; omega⟩, set5_ch (hq.out.trans hcw.out (fun _ h => .inl h)) (.inr (Nat.le_succ _))⟩
theorem typ_wt : ∀ {k : Nat} {T : Sy.Tr} {t : Ty.P}, typ k T = some t → Wt t
 | 0, _, _, h => by cases h
 | k + 1, T, t, h => by
  unfold typ at h
  split at h
  ·obtain rfl := Option.some.inj h; trivial
  ·obtain rfl := Option.some.inj h; trivial
  ·obtain rfl := Option.some.inj h; trivial
  ·split at h
   ·obtain ⟨x, hx, h⟩ := Option.bind_eq_some_iff.1 h
    obtain ⟨y, hy, rfl⟩ := Option.map_eq_some_iff.1 h; exact ⟨typ_wt hx, typ_wt hy⟩
   ·cases h
  ·cases h
theorem Type_step {k : Nat} (ih : TypeOK k) : TypeOK (k + 1) := by
 intro w F T v t h ht
 unfold typ at ht
 split at ht
 ·obtain rfl := Option.some.inj ht
  exact Type_leaf1 (by assumption)
 ·obtain rfl := Option.some.inj ht
  exact Type_leaf2 (by assumption)
 ·obtain rfl := Option.some.inj ht
  exact Type_leaf3 (by assumption)
 ·rename_i a b l hk hks
  split at ht
  ·rename_i hl
   obtain ⟨x, hx, h2⟩ := Option.bind_eq_some_iff.1 ht; obtain ⟨y, hy, rfl⟩ := Option.map_eq_some_iff.1 h2; exact Type_fn ih hk hks h hx hy (by omega)
  ·cases ht
 ·cases ht
theorem Type_any : ∀ k, TypeOK k
 | 0 => fun _ h => by cases h
 | k + 1 => Type_step (Type_any k)
end Go.Proofs.Ytejciampbnfbhaa

namespace Go.Proofs.Ytejciampbnfbhaa
open Go.RowKit Ie
abbrev OD := Opr × (Value × Value × Value × Value) × Int
abbrev opC (x : OD) : List Value := [str x.1.name, .int .i64 x.1.ti.kind, .int .i64 x.1.ti.num, .int .i64 x.1.ti.row, x.2.1.1, x.2.1.2.1, .int .i64 x.1.to.kind, .int .i64 x.1.to.num, .int .i64 x.1.to.row, x.2.1.2.2.1, x.2.1.2.2.2, .int .i64 x.2.2]
def opsC (l : List OD) : List Value := l.flatMap opC
abbrev opB (x : OD) : Obj := .cells #[str x.1.name, .int .i64 x.1.ti.kind, .int .i64 x.1.ti.num, .int .i64 x.1.ti.row, x.2.1.1, x.2.1.2.1, .int .i64 x.1.to.kind, .int .i64 x.1.to.num, .int .i64 x.1.to.row, x.2.1.2.2.1, x.2.1.2.2.2, .int .i64 x.2.2] 98
abbrev ckB (b : Nat) (ov : Value) : Obj := .cells #[.pointer (some ⟨b, 0, none⟩), .slice none 0 0, ov, .int .i64 0, .int .i64 0] 66
structure OM (n0 : Nat) (w : World) (ov : Value) (l : List OD) : Prop where
 row : w.ownsRow 0 98 12 ov l.length (opsC l)
 lo : ∀ k, ov.ownBlock = some k → n0 ≤ k
 ty : ∀ x ∈ l, ∀ w' : World, (∀ k, n0 ≤ k → k < w.heap.size → ov.ownBlock ≠ some k → w'.heap[k]? = w.heap[k]?) → IsT w' x.1.ti x.2.1.1 x.2.1.2.1 ∧ IsT w' x.1.to x.2.1.2.2.1 x.2.1.2.2.2
theorem flat_at {α : Type} {f : α → List Value} {n : Nat} (hf : ∀ x, (f x).length = n) : ∀ {l : List α} {i j : Nat} {x : α} {u : Value}, l[i]? = some x → j < n → (f x)[j]? = some u → (l.flatMap f)[i * n + j]? = some u
 | y :: l, 0, j, x, u, hx, hj, hu => by
  obtain rfl : y = x := by simpa using hx
  rw [List.flatMap_cons, Nat.zero_mul, Nat.zero_add, List.getElem?_append_left (by rw [hf]; exact hj)]
  exact hu
 | y :: l, i + 1, j, x, u, hx, hj, hu => by
  rw [List.flatMap_cons, List.getElem?_append_right (by rw [hf, Nat.add_mul]; omega), hf, show (i + 1) * n + j - n = i * n + j from by rw [Nat.add_mul]; omega]
  exact flat_at hf (by simpa using hx) hj hu
theorem OM.start (n0 : Nat) (w : World) : OM n0 w (.slice none 0 0) [] := ⟨World.ownsRow_nil _ _ _ _, fun k h => (by cases h), fun x h => (by cases h)⟩
theorem OM.lower {n m : Nat} {w : World} {ov : Value} {l : List OD} (h : OM n w ov l) (hm : m ≤ n) : OM m w ov l := ⟨h.row, fun k hk => Nat.le_trans hm (h.lo k hk), fun x hx w' hw => h.ty x hx w' fun k h1 h2 h3 => hw k (Nat.le_trans hm h1) h2 h3⟩
theorem OM.ch {n0 : Nat} {w w' : World} {O : Nat → Prop} {ov : Value} {l : List OD} (h : OM n0 w ov l) (hc : Ch O w w') (hO : ∀ k, O k → k < n0) : OM n0 w' ov l :=
 ⟨ownsRow_keep h.row fun k hk => hc.same k (ownsRow_lt h.row hk) (fun ho => by have := h.lo k hk; have := hO k ho; omega), h.lo, fun x hx w2 h2 => h.ty x hx w2 fun k h3 h4 h5 => (h2 k h3 (Nat.lt_of_lt_of_le h4 hc.size) h5).trans (hc.same k h4 (fun ho => by have := hO k ho; omega))⟩
theorem OM.opsIn {n0 : Nat} {w w' : World} {ov : Value} {l : List OD} (h : OM n0 w ov l) (hw : ∀ k, n0 ≤ k → k < w.heap.size → w'.heap[k]? = w.heap[k]?) : OpsIn w' ov (l.map (·.1)) := by
 have hr := ownsRow_keep (w' := w') h.row fun k hk => hw k (h.lo k hk) (ownsRow_lt h.row hk)
 obtain ⟨a, cap, rfl, h0, -⟩ := row_slice h.row
 refine ⟨a, cap, by simp, fun hl => ?_⟩
 rcases h0 with h0 | ⟨g, rfl⟩
 ·simp only [List.length_map] at hl
  omega
 ·refine ⟨g, rfl, fun i o ho => ?_⟩
  obtain ⟨x, hx, rfl⟩ : ∃ x, l[i]? = some x ∧ x.1 = o := by
   rw [List.getElem?_map] at ho; exact Option.map_eq_some_iff.1 ho
  have hat : ∀ {j : Nat} {u : Value}, j < 12 → (opC x)[j]? = some u → w'.cell? ⟨g, i * 12 + j, none⟩ = some u := fun hj hu => row_cell hr _ _ (flat_at (f := opC) (fun _ => rfl) hx hj hu)
  obtain ⟨t1, t2⟩ := h.ty x (List.mem_of_getElem? hx) w' fun k h1 h2 _ => hw k h1 h2
  exact ⟨x.2.1.1, x.2.1.2.1, x.2.1.2.2.1, x.2.1.2.2.2, x.2.2, hat (j := 0) (by omega) rfl, ⟨hat (j := 1) (by omega) rfl, hat (j := 2) (by omega) rfl, hat (j := 3) (by omega) rfl, hat (j := 4) (by omega) rfl, hat (j := 5) (by omega) rfl⟩, t1, ⟨hat (j := 6) (by omega) rfl, hat (j := 7) (by omega) rfl, hat (j := 8) (by omega) rfl, hat (j := 9) (by omega) rfl, hat (j := 10) (by omega) rfl⟩, t2, hat (j := 11) (by omega) rfl⟩
theorem OM.snoc {n0 B : Nat} {w w1 w2 : World} {ov v' : Value} {l : List OD} {x : OD} (h : OM n0 w ov l) (hc : Ch (fun _ => False) w w1) (hrow : w2.ownsRow 0 98 12 v' (l.length + 1) (opsC l ++ opC x)) (hgrow : w1.grownBy w2 ov.ownBlock) (hblk : v'.ownBlock = ov.ownBlock ∨ v'.ownBlock = some w1.heap.size) (hn : n0 ≤ w.heap.size)
  (r1 : RdB w.heap.size B w1 x.1.ti x.2.1.1 x.2.1.2.1) (r2 : RdB w.heap.size B w1 x.1.to x.2.1.2.2.1 x.2.1.2.2.2) : OM n0 w2 v' (l ++ [x]) := by
 have hch : Ch (fun k => ov.ownBlock = some k) w1 w2 := Ch.grown hgrow (fun k hk => hk)
 have hnew : ∀ w' : World, (∀ k, n0 ≤ k → k < w2.heap.size → v'.ownBlock ≠ some k → w'.heap[k]? = w2.heap[k]?) → ∀ k, w.heap.size ≤ k → k < w1.heap.size → k ≠ B → w'.heap[k]? = w1.heap[k]? := fun w' hw k h1 h2 _ => by
  have hno : ov.ownBlock ≠ some k := fun e => by have := ownsRow_lt h.row e; omega
  refine (hw k (by omega) (Nat.lt_of_lt_of_le h2 hch.size) fun e => ?_).trans (hch.same k h2 hno)
  rcases hblk with hb | hb
  ·exact hno (hb ▸ e)
  ·rw [hb] at e
   have := Option.some.inj e; omega
 refine ⟨?_, fun k hk => ?_, fun y hy w' hw => ?_⟩
 ·rw [List.length_append, List.length_singleton, show opsC (l ++ [x]) = opsC l ++ opC x from by simp [opsC]]
  exact hrow
 ·rcases hblk with hb | hb
  ·exact h.lo k (hb ▸ hk)
  ·rw [hb] at hk
   have := Option.some.inj hk; have := hc.size; omega
 ·rcases List.mem_append.1 hy with hy | hy
  ·refine h.ty y hy w' fun k h1 h2 h3 => ((hw k h1 (Nat.lt_of_lt_of_le (Nat.lt_of_lt_of_le h2 hc.size) hch.size) fun e => ?_).trans (hch.same k (Nat.lt_of_lt_of_le h2 hc.size) h3)).trans (hc.same k h2 (fun h => h))
   rcases hblk with hb | hb
   ·exact h3 (hb ▸ e)
   ·rw [hb] at e
    have := Option.some.inj e; have := hc.size; omega
  ·obtain rfl : y = x := by simpa using hy
   exact ⟨r1.2.2 w' (hnew w' hw), r2.2.2 w' (hnew w' hw)⟩
theorem new_cells (w : World) (l : List Value) (T : TypeId) : ∀ j u, l[j]? = some u → (w.alloc (.cells l.toArray T)).cell? ((⟨w.heap.size, 0, none⟩ : Addr).add j) = some u := by
 intro j u hj
 rw [at_plain]
 unfold World.cell?
 rw [World.alloc_heap_new w (.cells l.toArray T)]
 simpa using hj
theorem Try.infoOpr : (Try.prog.info? 98).map (fun i => (i.zero, i.size, i.bytes)) = some (some (.agg #[.string ⟨#[]⟩, .int .i64 0, .int .i64 0, .int .i64 0, .slice none 0 0, .slice none 0 0, .int .i64 0, .int .i64 0, .int .i64 0, .slice none 0 0, .slice none 0 0, .int .i64 0]), 12, 168) := by kernel_rfl
theorem ops_cons {k : Nat} {all : List (List UInt8)} {t : Sy.Tr} {r : List Sy.Tr} {l ops : List Opr} (h : opsOf k all (t :: r) l = some ops) :
  ∃ a b l3 x y, t.kids = a :: b :: l3 ∧ l.any (fun o => o.name == t.name) = false ∧ rowsOk all k a = true ∧ rowsOk all k b = true ∧ typ k a = some x ∧ typ k b = some y ∧ x.parts ≤ 300 ∧ y.parts ≤ 300 ∧ opsOf k all r (l ++ [⟨t.name, x, y⟩]) = some ops := by
 unfold opsOf at h
 split at h
 ·rename_i a b l3 hk
  split at h
  ·cases h
  ·rename_i hany
   split at h
   ·rename_i hr
    obtain ⟨x, hx, h⟩ := Option.bind_eq_some_iff.1 h; obtain ⟨y, hy, h⟩ := Option.bind_eq_some_iff.1 h
    split at h
    ·rename_i hz
     obtain ⟨hr1, hr2⟩ := Bool.and_eq_true_iff.1 hr; exact ⟨a, b, l3, x, y, hk, by simpa using hany, hr1, hr2, hx, hy, hz.1, hz.2, h⟩
    ·cases h
   ·cases h
 ·cases h
end Go.Proofs.Ytejciampbnfbhaa
