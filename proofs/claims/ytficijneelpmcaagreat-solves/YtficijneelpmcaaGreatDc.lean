/-
  The document's graph: Put.
-/
import Derived.Test.YtficijneelpmcaaGreatDb
set_option linter.unusedVariables false
set_option linter.unusedSimpArgs false
namespace Go.Proofs.YtficijneelpmcaaGreat
open Go.RowKit

theorem Tryz.info3 : (Tryz.prog.info? 3).map (fun i => (i.zero, i.size, i.bytes)) = some (some (.int .i64 0), 1, 8) := by kernel_rfl
theorem Tryz.infoStrs : (Tryz.prog.info? 30).map (fun i => (i.zero, i.size, i.bytes)) = some (some (.slice none 0 0), 1, 24) := by kernel_rfl
theorem Tryz.info9 : (Tryz.prog.info? 9).map (fun i => (i.zero, i.size, i.bytes)) = some (some (.string ⟨#[]⟩), 1, 16) := by kernel_rfl
theorem ownsRow_succ {w : World} {base : Nat} {e : TypeId} {size : Nat} {v : Value} {n : Nat} {xs : List Value} (h : w.ownsRow base e size v (n + 1) xs) : ∃ g cap, v = .slice (some ⟨g, 0, none⟩) (n + 1) cap := by
  rcases h.2 with ⟨_, h⟩ | ⟨g, cap, cur, rfl, _⟩
  · cases h
  · exact ⟨g, cap, rfl⟩
theorem GM.row_al {w : World} {b : Nat} {G : Gg} (h : GM w b G) {i : Nat} (hi : i < 7) {a : Option Addr} {cap : Nat} (hv : G.v i = .slice a (G.xs i).length cap) (o : Obj) : (w.alloc o).ownsRow 0 (el i) 1 (.slice a (G.xs i).length cap) (G.xs i).length (G.xs i) := by
  have := h.row i hi
  rw [hv] at this
  exact ownsRow_keep this (fun k hk => (Ch.alloc (fun _ => False) w _).same k (ownsRow_lt this hk) (fun h => h))
theorem al_ch (w : World) (o : Obj) : Ch (fun _ => False) w (w.alloc o) := (Ch.refl _ w).al o
theorem Ch.two {O O1 : Nat → Prop} {a b c : World} (h : Ch O a b) (k : Ch O1 b c) (hm : More a O O1) : Ch O a c := h.trans k hm
theorem More.two {a b : World} {O O1 O2 : Nat → Prop} (h : More a O O1) (k : More b O1 O2) (hs : a.heap.size ≤ b.heap.size) : More a O O2 := fun i hi => by
  rcases k i hi with e | e
  · exact h i e
  · exact .inr (by omega)

structure Pu (G G' : Gg) (i : Nat) (u : Value) : Prop where
  xs : ∀ j, G'.xs j = if j = i then G.xs i ++ [u] else G.xs j
  tv : G'.tv = G.tv
  rv : G'.rv = G.rv
theorem GM.push {w w1 : World} {b : Nat} {G : Gg} (h : GM w b G) {i : Nat} (hi : i < 7) {a : Option Addr} {cap : Nat} (hv : G.v i = .slice a (G.xs i).length cap) {o : Obj} {u v' : Value} (hrow : w1.ownsRow 0 (el i) 1 v' ((G.xs i).length + 1) (G.xs i ++ [u])) (hgrow : (w.alloc o).grownBy w1 (Value.slice a (G.xs i).length cap).ownBlock)
    (hblk : v'.ownBlock = (Value.slice a (G.xs i).length cap).ownBlock ∨ v'.ownBlock = some (w.alloc o).heap.size) : ∃ G', GM (w1.setCell ⟨b, i, none⟩ v') b G' ∧ Ch (G.own b) w (w1.setCell ⟨b, i, none⟩ v') ∧ More w (G.own b) (G'.own b) ∧ Pu G G' i u := by
  rw [← hv] at hgrow hblk
  obtain ⟨h1, h2, h3⟩ := h.app (i := i) hi (v' := v') (ys := G.xs i ++ [u]) (by simpa using hrow) (app_ch (al_ch w o) hgrow) (app_more (al_ch w o) hblk)
  exact ⟨_, h1, h2, h3, ⟨fun j => by simp only [Gg.setRow], rfl, rfl⟩⟩

/-- How long the rows are. -/
def Gg.small (G : Gg) (N : Nat) : Prop := ∀ i, i < 7 → (G.xs i).length < N
def PutX (k a c r : Int) (i : Nat) : List Value := if i = 0 then [.int .i64 k] else if i = 1 then [.int .i64 a] else if i = 2 then [.int .i64 c] else if i = 3 then [.int .i64 r] else if i = 4 then [.int .i64 (-1)] else []
set_option maxRecDepth 100000 in
set_option maxHeartbeats 4000000 in
theorem Put_any (w : World) (b : Nat) (G : Gg) (h : GM w b G) (hl : G.small 1000000000) (k a c r : Int) :
    Calls Tryz.prog 29 #[.pointer (some ⟨b, 0, none⟩), .int .i64 k, .int .i64 a, .int .i64 c, .int .i64 r] w fun e w' => e = .returned (.int .i64 ((G.xs 0).length : Nat)) ∧ ∃ G', GM w' b G' ∧ Ch (G.own b) w w' ∧ More w (G.own b) (G'.own b) ∧ (∀ i, G'.xs i = G.xs i ++ PutX k a c r i) ∧ G'.tv = G.tv ∧ G'.rv = G.rv := by
  have ah := h
  have hl0 : (G.xs 0).length < 1000000000 := hl 0 (by omega)
  have hw0 : IntKind.i64.wrap (((G.xs 0).length : Int) + 1 - 1) = ((G.xs 0).length : Int) := by rw [show ((G.xs 0).length : Int) + 1 - 1 = ((G.xs 0).length : Int) by omega]; exact IntWalk.i64_in _ (by omega)
  go_enter Tryz.func29, Tryz.ntmps29
  obtain ⟨aa, acap, av, _, _⟩ := ah.slice (i := 0) (by omega)
  have ar := ah.row_al (i := 0) (by omega) av (.cells #[.int .i64 k] 3)
  have au : (Value.slice aa (G.xs 0).length acap).ownBlock ≠ some b := av ▸ (ah.d2 0 (by omega)).1
  have ac := ah.cells.1
  rw [av] at ac
  have af := ah.frozen
  go_upto_region 2 with (at_builtin; go_must (refine list_append rfl (.tmp 15) (.tmp 17) 51 rfl 3 (.int .i64 0) 1 8 Tryz.underlying51 Tryz.info3 rfl (by decide) (.slice aa (G.xs 0).length acap) (G.xs 0).length (G.xs 0) rfl ar ⟨w.heap.size, 0, none⟩ 1 1 [.int .i64 k] rfl rfl (new_one w (.int .i64 k) 3) (by simp [Value.oneCell']) (by unfold maxLen; omega) (by omega) ?_); intro av' aw1 arow agr abl; (obtain ⟨ag', acap', rfl⟩ := ownsRow_succ arow); (obtain ⟨ae1, ae2⟩ := app_keep (al_ch w _) agr au ac af))
  obtain ⟨G0, an1, an2, an3, an4⟩ := ah.push (i := 0) (by omega) av arow agr abl
  clear arow agr abl ae1 ae2 ar au ac af
  generalize World.setCell aw1 ⟨b, 0, none⟩ _ = W0 at an1 an2 ⊢
  have bh := an1
  have bl : (G0.xs 1).length < 1000000000 := by have := hl 1 (by omega); simpa [an4.xs] using this
  obtain ⟨ba, bcap, bv, _, _⟩ := bh.slice (i := 1) (by omega)
  have br := bh.row_al (i := 1) (by omega) bv (.cells #[.int .i64 a] 3)
  have bu : (Value.slice ba (G0.xs 1).length bcap).ownBlock ≠ some b := bv ▸ (bh.d2 1 (by omega)).1
  have bc := bh.cells.2.1
  rw [bv] at bc
  have bf := bh.frozen
  go_upto_region 3 with (at_builtin; go_must (refine list_append rfl (.tmp 25) (.tmp 27) 51 rfl 3 (.int .i64 0) 1 8 Tryz.underlying51 Tryz.info3 rfl (by decide) (.slice ba (G0.xs 1).length bcap) (G0.xs 1).length (G0.xs 1) rfl br ⟨W0.heap.size, 0, none⟩ 1 1 [.int .i64 a] rfl rfl (new_one W0 (.int .i64 a) 3) (by simp [Value.oneCell']) (by unfold maxLen; omega) (by omega) ?_); intro bv' bw1 brow bgr bbl; (obtain ⟨bg', bcap', rfl⟩ := ownsRow_succ brow); (obtain ⟨be1, be2⟩ := app_keep (al_ch W0 _) bgr bu bc bf))
  obtain ⟨G1, bn1, bn2, bn3, bn4⟩ := bh.push (i := 1) (by omega) bv brow bgr bbl
  clear brow bgr bbl be1 be2 br bu bc bf
  generalize World.setCell bw1 ⟨b, 1, none⟩ _ = W1 at bn1 bn2 ⊢
  have ch := bn1
  have cl : (G1.xs 2).length < 1000000000 := by have := hl 2 (by omega); simpa [bn4.xs, an4.xs] using this
  obtain ⟨ca, ccap, cv, _, _⟩ := ch.slice (i := 2) (by omega)
  have cr := ch.row_al (i := 2) (by omega) cv (.cells #[.int .i64 c] 3)
  have cu : (Value.slice ca (G1.xs 2).length ccap).ownBlock ≠ some b := cv ▸ (ch.d2 2 (by omega)).1
  have cc := ch.cells.2.2.1
  rw [cv] at cc
  have cf := ch.frozen
  go_upto_region 4 with (at_builtin; go_must (refine list_append rfl (.tmp 35) (.tmp 37) 51 rfl 3 (.int .i64 0) 1 8 Tryz.underlying51 Tryz.info3 rfl (by decide) (.slice ca (G1.xs 2).length ccap) (G1.xs 2).length (G1.xs 2) rfl cr ⟨W1.heap.size, 0, none⟩ 1 1 [.int .i64 c] rfl rfl (new_one W1 (.int .i64 c) 3) (by simp [Value.oneCell']) (by unfold maxLen; omega) (by omega) ?_); intro cv' cw1 crow cgr cbl; (obtain ⟨cg', ccap', rfl⟩ := ownsRow_succ crow); (obtain ⟨ce1, ce2⟩ := app_keep (al_ch W1 _) cgr cu cc cf))
  obtain ⟨G2, cn1, cn2, cn3, cn4⟩ := ch.push (i := 2) (by omega) cv crow cgr cbl
  clear crow cgr cbl ce1 ce2 cr cu cc cf
  generalize World.setCell cw1 ⟨b, 2, none⟩ _ = W2 at cn1 cn2 ⊢
  have dh := cn1
  have dl : (G2.xs 3).length < 1000000000 := by have := hl 3 (by omega); simpa [cn4.xs, bn4.xs, an4.xs] using this
  obtain ⟨da, dcap, dv, _, _⟩ := dh.slice (i := 3) (by omega)
  have dr := dh.row_al (i := 3) (by omega) dv (.cells #[.int .i64 r] 3)
  have du : (Value.slice da (G2.xs 3).length dcap).ownBlock ≠ some b := dv ▸ (dh.d2 3 (by omega)).1
  have dc := dh.cells.2.2.2.1
  rw [dv] at dc
  have df := dh.frozen
  go_upto_region 5 with (at_builtin; go_must (refine list_append rfl (.tmp 45) (.tmp 47) 51 rfl 3 (.int .i64 0) 1 8 Tryz.underlying51 Tryz.info3 rfl (by decide) (.slice da (G2.xs 3).length dcap) (G2.xs 3).length (G2.xs 3) rfl dr ⟨W2.heap.size, 0, none⟩ 1 1 [.int .i64 r] rfl rfl (new_one W2 (.int .i64 r) 3) (by simp [Value.oneCell']) (by unfold maxLen; omega) (by omega) ?_); intro dv' dw1 drow dgr dbl; (obtain ⟨dg', dcap', rfl⟩ := ownsRow_succ drow); (obtain ⟨de1, de2⟩ := app_keep (al_ch W2 _) dgr du dc df))
  obtain ⟨G3, dn1, dn2, dn3, dn4⟩ := dh.push (i := 3) (by omega) dv drow dgr dbl
  clear drow dgr dbl de1 de2 dr du dc df
  generalize World.setCell dw1 ⟨b, 3, none⟩ _ = W3 at dn1 dn2 ⊢
  have eh := dn1
  have el : (G3.xs 4).length < 1000000000 := by have := hl 4 (by omega); simpa [dn4.xs, cn4.xs, bn4.xs, an4.xs] using this
  obtain ⟨ea, ecap, ev, _, _⟩ := eh.slice (i := 4) (by omega)
  have er := eh.row_al (i := 4) (by omega) ev (.cells #[.int .i64 (-1)] 3)
  have eu : (Value.slice ea (G3.xs 4).length ecap).ownBlock ≠ some b := ev ▸ (eh.d2 4 (by omega)).1
  have ec := eh.cells.2.2.2.2.1
  rw [ev] at ec
  have ef := eh.frozen
  go_upto_region 6 with (at_builtin; go_must (refine list_append rfl (.tmp 55) (.tmp 56) 51 rfl 3 (.int .i64 0) 1 8 Tryz.underlying51 Tryz.info3 rfl (by decide) (.slice ea (G3.xs 4).length ecap) (G3.xs 4).length (G3.xs 4) rfl er ⟨W3.heap.size, 0, none⟩ 1 1 [.int .i64 (-1)] rfl rfl (new_one W3 (.int .i64 (-1)) 3) (by simp [Value.oneCell']) (by unfold maxLen; omega) (by omega) ?_); intro ev' ew1 erow egr ebl; (obtain ⟨eg', ecap', rfl⟩ := ownsRow_succ erow); (obtain ⟨ee1, ee2⟩ := app_keep (al_ch W3 _) egr eu ec ef))
  obtain ⟨G4, en1, en2, en3, en4⟩ := eh.push (i := 4) (by omega) ev erow egr ebl
  clear erow egr ebl ee1 ee2 er eu ec ef
  generalize World.setCell ew1 ⟨b, 4, none⟩ _ = W4 at en1 en2 ⊢
  have fh := en1
  have hx0 : (G4.xs 0).length = (G.xs 0).length + 1 := by simp [en4.xs, dn4.xs, cn4.xs, bn4.xs, an4.xs]
  obtain ⟨fa, fcap, fv, _, _⟩ := fh.slice (i := 0) (by omega)
  have fc := fh.cells.1
  rw [fv, hx0] at fc
  go_wp2
  go_ret
  refine ⟨?_, G4, fh, ?_, ?_, fun i => ?_, ?_, ?_⟩
  · rfl
  · exact (((an2.two bn2 an3).two cn2 (an3.two bn3 an2.size)).two dn2 ((an3.two bn3 an2.size).two cn3 (an2.two bn2 an3).size)).two en2 (((an3.two bn3 an2.size).two cn3 (an2.two bn2 an3).size).two dn3 ((an2.two bn2 an3).two cn2 (an3.two bn3 an2.size)).size)
  · exact (((an3.two bn3 an2.size).two cn3 (an2.two bn2 an3).size).two dn3 ((an2.two bn2 an3).two cn2 (an3.two bn3 an2.size)).size).two en3 (((an2.two bn2 an3).two cn2 (an3.two bn3 an2.size)).two dn2 ((an3.two bn3 an2.size).two cn3 (an2.two bn2 an3).size)).size
  · rw [en4.xs]
    simp only [dn4.xs, cn4.xs, bn4.xs, an4.xs, PutX]
    by_cases e0 : i = 0 <;> by_cases e1 : i = 1 <;> by_cases e2 : i = 2 <;> by_cases e3 : i = 3 <;> by_cases e4 : i = 4 <;> simp_all
  · rw [en4.tv, dn4.tv, cn4.tv, bn4.tv, an4.tv]
  · rw [en4.rv, dn4.rv, cn4.rv, bn4.rv, an4.rv]
end Go.Proofs.YtficijneelpmcaaGreat
