import Derived.Test.YtejciampbnfbhaaMRq
import Derived.Laws.MakeOwn
set_option linter.unusedVariables false
set_option linter.unusedSimpArgs false
set_option maxRecDepth 100000
set_option maxHeartbeats 16000000
namespace Go.Proofs.Ytejciampbnfbhaa
open Go.RowKit
attribute [local simp] wide_fn
theorem find_at {l : List Int} : ∀ {f : Nat} {n m : Int}, Dg.find f l n = some m → ∃ i : Nat, m = (i : Int) ∧ i < l.length
 | 0, _, _, h => by cases h
 | f + 1, n, m, h => by
  unfold Dg.find at h
  obtain ⟨x, h1, h2⟩ := Option.bind_eq_some_iff.1 h
  split at h2
  ·exact find_at h2
  ·obtain rfl := Option.some.inj h2
   obtain ⟨i, rfl, hi⟩ := Dg.at_some h1; exact ⟨i, rfl, (List.getElem?_eq_some_iff.1 hi).1⟩
theorem at_nat {α : Type} {l : List α} {i : Nat} {x : α} (h : Dg.at? l (i : Int) = some x) : l[i]? = some x := by
 obtain ⟨n, e, h⟩ := Dg.at_some h
 obtain rfl : i = n := by omega
 exact h
def SameOK (b f k : Nat) : Prop := ∀ {w : World} {G : Gg} {d d' : Dg.D} {m n : Int} {ok : Bool}, GD w b G d → Dg.same f k d m n = some (ok, d') →
 Calls Try.prog 78 #[.pointer (some ⟨b, 0, none⟩), .int .i64 m, .int .i64 n] w fun e w' => e = .returned (.bool ok) ∧ GS w b G w' d'
theorem Same_step {b f k : Nat} (ih : SameOK b f k) : SameOK b f (k + 1) := by
 intro w G d d' m n ok h hs
 obtain ⟨m', n', fm, fn, hc⟩ := Dg.same_cases hs
 have H1 := h.Find fm
 have H2 := h.Find fn
 obtain ⟨mi, rfl, hml⟩ := find_at fm
 obtain ⟨ni, rfl, hnl⟩ := find_at fn
 clear fm fn hs
 have m0 : (0 : Int) ≤ mi := by omega
 have n0 : (0 : Int) ≤ ni := by omega
 replace ih := @hid _ @ih
 replace hc := hid hc
 replace h := hid h
 go_enter Try.func78, Try.ntmps78
 go_upto_region 3 with (first
  | (have _g := H1; clear _g; go_at_call 57; refine H1.mono ?_; clear H1; rintro e w1 ⟨rfl, hw1⟩; obtain rfl := hw1.symm)
  | (have _g := H2; clear _g; go_at_call 57; refine H2.mono ?_; clear H2; rintro e w1 ⟨rfl, hw1⟩; obtain rfl := hw1.symm))
 rcases hc.out with ⟨e1, rfl, rfl⟩ | ⟨e1, hk, rfl, rfl⟩ | ⟨km, kn, e1, hkm, hkm0, hkn, hc2⟩
 ·clear hc
  have e2 : mi = ni := by omega
  subst e2
  go_wp2
  go_ret
  exact ⟨rfl, GS.refl h.out⟩
 ·clear hc
  obtain ⟨kg, kc, k1, k2, _, k4⟩ := GD.intAt h.out.gm (j := 0) (by omega) h.out.x0 (at_nat hk)
  have b0 := h.out.gm.cells.1
  rw [k1] at b0
  obtain ⟨lx, hlx⟩ : ∃ lx, d.link[mi]? = some lx := ⟨d.link[mi], by simp⟩
  obtain ⟨lg, lc, l1, l2, l3, l4⟩ := GD.intAt h.out.gm (j := 4) (by omega) h.out.x4 hlx
  have b4 := h.out.gm.cells.2.2.2.2.1
  rw [l1] at b4
  have i1 : (mi : Int) < (d.kind.length : Int) := by omega
  have i2 : (mi : Int) < (d.link.length : Int) := by omega
  have hend := hid (h.out.lnk (i := mi) hml l1 (ni : Int))
  clear hk hlx k1 l1
  go_wp2
  go_ret
  rw [Int.toNat_natCast]
  exact ⟨rfl, hend.out⟩
 ·clear hc
  obtain ⟨kg, kc, k1, k2, _, k4⟩ := GD.intAt h.out.gm (j := 0) (by omega) h.out.x0 (at_nat hkm)
  obtain ⟨kg', kc', k1', k2', _, k4'⟩ := GD.intAt h.out.gm (j := 0) (by omega) h.out.x0 (at_nat hkn)
  rw [k1] at k1'
  cases k1'
  have b0 := h.out.gm.cells.1
  rw [k1] at b0
  have i1 : (mi : Int) < (d.kind.length : Int) := by omega
  have i2 : (ni : Int) < (d.kind.length : Int) := by omega
  rcases hc2 with ⟨rfl, rfl, rfl⟩ | ⟨hkn0, hne, rfl, rfl⟩ | ⟨hkn0, rfl, am, an, bm, bn, rm, rn, hd⟩
  ·obtain ⟨lx, hlx⟩ : ∃ lx, d.link[ni]? = some lx := ⟨d.link[ni], by simp⟩
   obtain ⟨lg, lc, l1, l2, l3, l4⟩ := GD.intAt h.out.gm (j := 4) (by omega) h.out.x4 hlx; have b4 := h.out.gm.cells.2.2.2.2.1; rw [l1] at b4; have i3 : (ni : Int) < (d.link.length : Int) := by omega
   have hend := hid (h.out.lnk (i := ni) hnl l1 (mi : Int)); clear hkm hkn hlx k1 l1
   go_wp2
   go_ret
   rw [Int.toNat_natCast]; exact ⟨rfl, hend.out⟩
  ·clear hkm hkn k1
   go_wp2
   go_quiet (fail)
   go_wp2
   go_ret
   exact ⟨rfl, (GS.refl h.out).quiet ((Ch.refl _ _).dn _)⟩
  ·obtain ⟨lx, hlx⟩ : ∃ lx, d.link[mi]? = some lx := ⟨d.link[mi], by simp⟩
   obtain ⟨lg, lc, l1, l2, l3, l4⟩ := GD.intAt h.out.gm (j := 4) (by omega) h.out.x4 hlx; have b4 := h.out.gm.cells.2.2.2.2.1; rw [l1] at b4; have i3 : (mi : Int) < (d.link.length : Int) := by omega
   replace hd := hid hd; clear hkm hkn hlx
   go_upto_region 11 with (fail)
   go_quiet (fail)
   obtain ⟨G1, g1, c1, m1⟩ := (h.out.quiet ((Ch.refl _ w).dn nq)).lnk (i := mi) hml l1 (ni : Int); have m1' : More w (G.own b) (G1.own b) := m1; have c1' : Ch (G.own b) w ((w.drewN nq).setCell ⟨lg, mi, none⟩ (.int .i64 (ni : Nat))) := ((Ch.refl (G.own b) w).dn nq).trans c1 (fun _ h => .inl h); clear l1 k1 c1 m1
   go_upto_region 14 with (fail)
   generalize World.setCell (w.drewN nq) ⟨lg, mi, none⟩ _ = W1 at g1 c1' ⊢; clear b0 b4 k2 k2' l2 l3; replace g1 := hid g1; have kp1 : Dg.Kept d (d.lnk mi ni) := Dg.lnk_kept _ _ _; obtain ⟨pg, pc, p1, p2, _, p4⟩ := GD.intAt g1.out.gm (j := 1) (by omega) (l := d.a) (g1.out.x1.trans (congrArg ints (kp1.a))) (at_nat hd.out.ham); obtain ⟨pg', pc', p1', p2', _, p4'⟩ := GD.intAt g1.out.gm (j := 1) (by omega) (l := d.a) (g1.out.x1.trans (congrArg ints (kp1.a))) (at_nat hd.out.han); rw [p1] at p1'; cases p1'; have pb := g1.out.gm.cells.2.1; rw [p1] at pb; have pi : (mi : Int) < (d.a.length : Int) := by omega
   have pj : (ni : Int) < (d.a.length : Int) := by omega
   clear p1; obtain ⟨⟨ok1, d1⟩, hp, hgo⟩ := Option.bind_eq_some_iff.1 hd.out.go; simp only [Int.toNat_natCast] at hp hgo
   by_cases ha0 : 0 ≤ am
   ·rw [if_pos ha0] at hp
    have kx : Dg.Kept d d1 := kp1.trans (Dg.same_kept hp); have HS : ∀ q, Calls Try.prog 78 #[.pointer (some ⟨b, 0, none⟩), .int .i64 am, .int .i64 an] (W1.drewN q) fun e w' => e = .returned (.bool ok1) ∧ GS (W1.drewN q) b G1 w' d1 := fun q => ih.out (g1.out.quiet ((Ch.refl _ _).dn q)) hp; replace HS := hid HS; replace hgo := hid hgo; clear hp
    go_upto_region 15 with (fail)
    refine wp_region_split 15 2 (by kernel_rfl) rfl (by kernel_rfl) (by kernel_rfl) (by kernel_rfl) ?_; simp only [List.take_succ_cons, List.take_zero]
    repeat (gi_big_quiet_step (fail))
    refine wpQuietIn_nil ?_; intro _ hw'; obtain ⟨nq1, hw''⟩ := hw'; subst hw''; refine wpAnyIn_ready (rs := [15]) (by kernel_rfl) (by simp) (AllReadyIn.cons rfl (fun K hK => ?_) AllReadyIn.nil)
    go_simp
    refine ⟨rfl, callsIn_wide.2 ((HS.out _).mono ?_)⟩; rintro e W2 ⟨rfl, G2, g2, c2, m2⟩
    dsimp only
    refine hK _ _ ?_; clear hK K; refine wpAnyIn_ready (rs := [16]) (by kernel_rfl) (by simp) (AllReadyIn.cons rfl (fun K hK => ?_) AllReadyIn.nil)
    go_simp
    refine hK _ _ ?_; clear hK K; refine wpAnyIn_done (by kernel_rfl) ?_ _; have c2' : Ch (G1.own b) W1 W2 := ((Ch.refl (G1.own b) W1).dn _).trans c2 (fun _ h => .inl h); have m2' : More W1 (G1.own b) (G2.own b) := m2; clear c2 m2 HS; replace g2 := hid g2; replace hgo := hgo.out
    cases ok1 with
    | false =>
     rw [if_pos rfl] at hgo; obtain ⟨rfl, rfl⟩ := Prod.mk.inj (Option.some.inj hgo)
     go_wp2
     go_ret
     exact ⟨rfl, GS.after c1' m1' ⟨G2, g2.out, c2', m2'⟩⟩
    | true =>
     rw [if_neg (by simp)] at hgo; obtain ⟨q2g, q2c, q21, q22, _, q24⟩ := GD.intAt g2.out.gm (j := 2) (by omega) (l := d.b) (g2.out.x2.trans (congrArg ints (kx.b))) (at_nat hd.out.hbm); obtain ⟨q2g', q2c', q21', q22', _, q24'⟩ := GD.intAt g2.out.gm (j := 2) (by omega) (l := d.b) (g2.out.x2.trans (congrArg ints (kx.b))) (at_nat hd.out.hbn); rw [q21] at q21'; cases q21'; have q2b := g2.out.gm.cells.2.2.1; rw [q21] at q2b; have q2i : (mi : Int) < (d.b.length : Int) := by omega
     have q2j : (ni : Int) < (d.b.length : Int) := by omega
     clear q21; obtain ⟨⟨ok2, d2⟩, hq, hgo2⟩ := Option.bind_eq_some_iff.1 hgo; clear hgo; have hgo := hgo2; clear hgo2; simp only at hgo
     by_cases hb0 : 0 ≤ bm
     ·rw [if_pos hb0] at hq
      have kq : Dg.Kept d d2 := (kx).trans (Dg.same_kept hq); have HT : ∀ q, Calls Try.prog 78 #[.pointer (some ⟨b, 0, none⟩), .int .i64 bm, .int .i64 bn] (World.drewN W2 q) fun e w' => e = .returned (.bool ok2) ∧ GS (World.drewN W2 q) b G2 w' d2 := fun q => ih.out (g2.out.quiet ((Ch.refl _ _).dn q)) hq; replace HT := hid HT; replace hgo := hid hgo; clear hq
      go_upto_region 19 with (fail)
      refine wp_region_split 15 2 (by kernel_rfl) rfl (by kernel_rfl) (by kernel_rfl) (by kernel_rfl) ?_; simp only [List.take_succ_cons, List.take_zero]
      repeat (gi_big_quiet_step (fail))
      refine wpQuietIn_nil ?_; intro _ hw'; obtain ⟨nqq2, hw''⟩ := hw'; subst hw''; refine wpAnyIn_ready (rs := [15]) (by kernel_rfl) (by simp) (AllReadyIn.cons rfl (fun K hK => ?_) AllReadyIn.nil)
      go_simp
      refine ⟨rfl, callsIn_wide.2 ((HT.out _).mono ?_)⟩; rintro e W2y ⟨rfl, G2y, g2y, c2y, m2y⟩
      dsimp only
      refine hK _ _ ?_; clear hK K; refine wpAnyIn_ready (rs := [16]) (by kernel_rfl) (by simp) (AllReadyIn.cons rfl (fun K hK => ?_) AllReadyIn.nil)
      go_simp
      refine hK _ _ ?_; clear hK K; refine wpAnyIn_done (by kernel_rfl) ?_ _; have c2y' : Ch (G2.own b) W2 W2y := ((Ch.refl (G2.own b) W2).dn _).trans c2y (fun _ h => .inl h); have m2y' : More W2 (G2.own b) (G2y.own b) := m2y; clear c2y m2y HT; replace g2y := hid g2y; replace hgo := hgo.out
      cases ok2 with
      | false =>
       rw [if_pos rfl] at hgo; obtain ⟨rfl, rfl⟩ := Prod.mk.inj (Option.some.inj hgo)
       go_wp2
       go_ret
       exact ⟨rfl, GS.after (c1'.two c2' m1') (m1'.two m2' c1'.size) ⟨G2y, g2y.out, c2y', m2y'⟩⟩
      | true =>
       rw [if_neg (by simp)] at hgo; obtain ⟨r2yg, r2yc, r2y1, r2y2, _, r2y4⟩ := GD.intAt g2y.out.gm (j := 0) (by omega) (l := d.kind) (g2y.out.x0.trans (congrArg ints (kq.kind))) (at_nat hd.out.hm); obtain ⟨r2yg', r2yc', r2y1', r2y2', _, r2y4'⟩ := GD.intAt g2y.out.gm (j := 0) (by omega) (l := d.kind) (g2y.out.x0.trans (congrArg ints (kq.kind))) (at_nat hd.out.hn); rw [r2y1] at r2y1'; cases r2y1'; have r2yb := g2y.out.gm.cells.1; rw [r2y1] at r2yb; have r2yi : (mi : Int) < (d.kind.length : Int) := by omega
       have r2yj : (ni : Int) < (d.kind.length : Int) := by omega
       clear r2y1; obtain ⟨s2yg, s2yc, s2y1, s2y2, _, s2y4⟩ := GD.intAt g2y.out.gm (j := 3) (by omega) (l := d.row) (g2y.out.x3.trans (congrArg ints (kq.row))) (at_nat hd.out.hrm); obtain ⟨s2yg', s2yc', s2y1', s2y2', _, s2y4'⟩ := GD.intAt g2y.out.gm (j := 3) (by omega) (l := d.row) (g2y.out.x3.trans (congrArg ints (kq.row))) (at_nat hd.out.hrn); rw [s2y1] at s2y1'; cases s2y1'; have s2yb := g2y.out.gm.cells.2.2.2.1; rw [s2y1] at s2yb; have s2yi : (mi : Int) < (d.row.length : Int) := by omega
       have s2yj : (ni : Int) < (d.row.length : Int) := by omega
       clear s2y1
       by_cases hk6 : km = 6
       ·rw [if_pos hk6] at hgo
        subst hk6; have HR : ∀ q, Calls Try.prog 90 #[.pointer (some ⟨b, 0, none⟩), .int .i64 rm, .int .i64 rn] (World.drewN W2y q) fun e w' => e = .returned (.bool ok) ∧ GS (World.drewN W2y q) b G2y w' d' := fun q => (g2y.out.quiet ((Ch.refl _ _).dn q)).SameRow hgo; replace HR := hid HR; replace hgo := hid hgo
        go_upto_region 22 with (fail)
        refine wp_region_split 24 3 (by kernel_rfl) rfl (by kernel_rfl) (by kernel_rfl) (by kernel_rfl) ?_; simp only [List.take_succ_cons, List.take_zero]
        repeat (gi_big_quiet_step (fail))
        refine wpQuietIn_nil ?_; intro _ hw'; obtain ⟨nqr2y, hw''⟩ := hw'; subst hw''; refine wpAnyIn_ready (rs := [24]) (by kernel_rfl) (by simp) (AllReadyIn.cons rfl (fun K hK => ?_) AllReadyIn.nil)
        go_simp
        refine ⟨rfl, callsIn_wide.2 ((HR.out _).mono ?_)⟩; rintro e We ⟨rfl, Ge, ge, ce, me⟩
        dsimp only
        refine hK _ _ ?_; clear hK K; refine wpAnyIn_ready (rs := [25]) (by kernel_rfl) (by simp) (AllReadyIn.cons rfl (fun K hK => ?_) AllReadyIn.nil)
        go_simp
        refine hK _ _ ?_; clear hK K; refine wpAnyIn_ready (rs := [26]) (by kernel_rfl) (by simp) (AllReadyIn.cons rfl (fun K hK => ?_) AllReadyIn.nil)
        go_simp
        refine hK _ _ ?_; clear hK K; refine wpAnyIn_done (by kernel_rfl) ?_ _
        go_wp2
        go_ret
        exact ⟨rfl, GS.after ((c1'.two c2' m1').two c2y' (m1'.two m2' c1'.size)) ((m1'.two m2' c1'.size).two m2y' (c1'.two c2' m1').size) (GS.after ((Ch.refl _ _).dn _) (fun _ h => .inl h) ⟨Ge, ge, ce, me⟩)⟩
       ·rw [if_neg hk6] at hgo
        obtain ⟨rfl, rfl⟩ := Prod.mk.inj (Option.some.inj hgo)
        go_upto_region 22 with (fail)
        go_quiet (fail)
        go_wp2
        go_ret
        exact ⟨rfl, GS.after ((c1'.two c2' m1').two c2y' (m1'.two m2' c1'.size)) ((m1'.two m2' c1'.size).two m2y' (c1'.two c2' m1').size) ((GS.refl g2y.out).quiet ((Ch.refl _ _).dn _))⟩
     ·rw [if_neg hb0] at hq
      obtain ⟨rfl, rfl⟩ := Prod.mk.inj (Option.some.inj hq); rw [if_neg (by simp)] at hgo; clear hq; obtain ⟨r2g, r2c, r21, r22, _, r24⟩ := GD.intAt g2.out.gm (j := 0) (by omega) (l := d.kind) (g2.out.x0.trans (congrArg ints (kx.kind))) (at_nat hd.out.hm); obtain ⟨r2g', r2c', r21', r22', _, r24'⟩ := GD.intAt g2.out.gm (j := 0) (by omega) (l := d.kind) (g2.out.x0.trans (congrArg ints (kx.kind))) (at_nat hd.out.hn); rw [r21] at r21'; cases r21'; have r2b := g2.out.gm.cells.1; rw [r21] at r2b; have r2i : (mi : Int) < (d.kind.length : Int) := by omega
      have r2j : (ni : Int) < (d.kind.length : Int) := by omega
      clear r21; obtain ⟨s2g, s2c, s21, s22, _, s24⟩ := GD.intAt g2.out.gm (j := 3) (by omega) (l := d.row) (g2.out.x3.trans (congrArg ints (kx.row))) (at_nat hd.out.hrm); obtain ⟨s2g', s2c', s21', s22', _, s24'⟩ := GD.intAt g2.out.gm (j := 3) (by omega) (l := d.row) (g2.out.x3.trans (congrArg ints (kx.row))) (at_nat hd.out.hrn); rw [s21] at s21'; cases s21'; have s2b := g2.out.gm.cells.2.2.2.1; rw [s21] at s2b; have s2i : (mi : Int) < (d.row.length : Int) := by omega
      have s2j : (ni : Int) < (d.row.length : Int) := by omega
      clear s21
      by_cases hk6 : km = 6
      ·rw [if_pos hk6] at hgo
       subst hk6; have HR : ∀ q, Calls Try.prog 90 #[.pointer (some ⟨b, 0, none⟩), .int .i64 rm, .int .i64 rn] (World.drewN W2 q) fun e w' => e = .returned (.bool ok) ∧ GS (World.drewN W2 q) b G2 w' d' := fun q => (g2.out.quiet ((Ch.refl _ _).dn q)).SameRow hgo; replace HR := hid HR; replace hgo := hid hgo
       go_upto_region 22 with (fail)
       refine wp_region_split 24 3 (by kernel_rfl) rfl (by kernel_rfl) (by kernel_rfl) (by kernel_rfl) ?_; simp only [List.take_succ_cons, List.take_zero]
       repeat (gi_big_quiet_step (fail))
       refine wpQuietIn_nil ?_; intro _ hw'; obtain ⟨nqr2, hw''⟩ := hw'; subst hw''; refine wpAnyIn_ready (rs := [24]) (by kernel_rfl) (by simp) (AllReadyIn.cons rfl (fun K hK => ?_) AllReadyIn.nil)
       go_simp
       refine ⟨rfl, callsIn_wide.2 ((HR.out _).mono ?_)⟩; rintro e We ⟨rfl, Ge, ge, ce, me⟩
       dsimp only
       refine hK _ _ ?_; clear hK K; refine wpAnyIn_ready (rs := [25]) (by kernel_rfl) (by simp) (AllReadyIn.cons rfl (fun K hK => ?_) AllReadyIn.nil)
       go_simp
       refine hK _ _ ?_; clear hK K; refine wpAnyIn_ready (rs := [26]) (by kernel_rfl) (by simp) (AllReadyIn.cons rfl (fun K hK => ?_) AllReadyIn.nil)
       go_simp
       refine hK _ _ ?_; clear hK K; refine wpAnyIn_done (by kernel_rfl) ?_ _
       go_wp2
       go_ret
       exact ⟨rfl, GS.after (c1'.two c2' m1') (m1'.two m2' c1'.size) (GS.after ((Ch.refl _ _).dn _) (fun _ h => .inl h) ⟨Ge, ge, ce, me⟩)⟩
      ·rw [if_neg hk6] at hgo
       obtain ⟨rfl, rfl⟩ := Prod.mk.inj (Option.some.inj hgo)
       go_upto_region 22 with (fail)
       go_quiet (fail)
       go_wp2
       go_ret
       exact ⟨rfl, GS.after (c1'.two c2' m1') (m1'.two m2' c1'.size) ((GS.refl g2.out).quiet ((Ch.refl _ _).dn _))⟩
   ·rw [if_neg ha0] at hp
    obtain ⟨rfl, rfl⟩ := Prod.mk.inj (Option.some.inj hp); rw [if_neg (by simp)] at hgo; clear hp; obtain ⟨q1g, q1c, q11, q12, _, q14⟩ := GD.intAt g1.out.gm (j := 2) (by omega) (l := d.b) (g1.out.x2.trans (congrArg ints (kp1.b))) (at_nat hd.out.hbm); obtain ⟨q1g', q1c', q11', q12', _, q14'⟩ := GD.intAt g1.out.gm (j := 2) (by omega) (l := d.b) (g1.out.x2.trans (congrArg ints (kp1.b))) (at_nat hd.out.hbn); rw [q11] at q11'; cases q11'; have q1b := g1.out.gm.cells.2.2.1; rw [q11] at q1b; have q1i : (mi : Int) < (d.b.length : Int) := by omega
    have q1j : (ni : Int) < (d.b.length : Int) := by omega
    clear q11; obtain ⟨⟨ok2, d2⟩, hq, hgo2⟩ := Option.bind_eq_some_iff.1 hgo; clear hgo; have hgo := hgo2; clear hgo2; simp only at hgo
    by_cases hb0 : 0 ≤ bm
    ·rw [if_pos hb0] at hq
     have kq : Dg.Kept d d2 := (kp1).trans (Dg.same_kept hq); have HT : ∀ q, Calls Try.prog 78 #[.pointer (some ⟨b, 0, none⟩), .int .i64 bm, .int .i64 bn] (World.drewN W1 q) fun e w' => e = .returned (.bool ok2) ∧ GS (World.drewN W1 q) b G1 w' d2 := fun q => ih.out (g1.out.quiet ((Ch.refl _ _).dn q)) hq; replace HT := hid HT; replace hgo := hid hgo; clear hq
     go_upto_region 19 with (fail)
     refine wp_region_split 15 2 (by kernel_rfl) rfl (by kernel_rfl) (by kernel_rfl) (by kernel_rfl) ?_; simp only [List.take_succ_cons, List.take_zero]
     repeat (gi_big_quiet_step (fail))
     refine wpQuietIn_nil ?_; intro _ hw'; obtain ⟨nqq1, hw''⟩ := hw'; subst hw''; refine wpAnyIn_ready (rs := [15]) (by kernel_rfl) (by simp) (AllReadyIn.cons rfl (fun K hK => ?_) AllReadyIn.nil)
     go_simp
     refine ⟨rfl, callsIn_wide.2 ((HT.out _).mono ?_)⟩; rintro e W1y ⟨rfl, G1y, g1y, c1y, m1y⟩
     dsimp only
     refine hK _ _ ?_; clear hK K; refine wpAnyIn_ready (rs := [16]) (by kernel_rfl) (by simp) (AllReadyIn.cons rfl (fun K hK => ?_) AllReadyIn.nil)
     go_simp
     refine hK _ _ ?_; clear hK K; refine wpAnyIn_done (by kernel_rfl) ?_ _; have c1y' : Ch (G1.own b) W1 W1y := ((Ch.refl (G1.own b) W1).dn _).trans c1y (fun _ h => .inl h); have m1y' : More W1 (G1.own b) (G1y.own b) := m1y; clear c1y m1y HT; replace g1y := hid g1y; replace hgo := hgo.out
     cases ok2 with
     | false =>
      rw [if_pos rfl] at hgo; obtain ⟨rfl, rfl⟩ := Prod.mk.inj (Option.some.inj hgo)
      go_wp2
      go_ret
      exact ⟨rfl, GS.after (c1') (m1') ⟨G1y, g1y.out, c1y', m1y'⟩⟩
     | true =>
      rw [if_neg (by simp)] at hgo; obtain ⟨r1yg, r1yc, r1y1, r1y2, _, r1y4⟩ := GD.intAt g1y.out.gm (j := 0) (by omega) (l := d.kind) (g1y.out.x0.trans (congrArg ints (kq.kind))) (at_nat hd.out.hm); obtain ⟨r1yg', r1yc', r1y1', r1y2', _, r1y4'⟩ := GD.intAt g1y.out.gm (j := 0) (by omega) (l := d.kind) (g1y.out.x0.trans (congrArg ints (kq.kind))) (at_nat hd.out.hn); rw [r1y1] at r1y1'; cases r1y1'; have r1yb := g1y.out.gm.cells.1; rw [r1y1] at r1yb; have r1yi : (mi : Int) < (d.kind.length : Int) := by omega
      have r1yj : (ni : Int) < (d.kind.length : Int) := by omega
      clear r1y1; obtain ⟨s1yg, s1yc, s1y1, s1y2, _, s1y4⟩ := GD.intAt g1y.out.gm (j := 3) (by omega) (l := d.row) (g1y.out.x3.trans (congrArg ints (kq.row))) (at_nat hd.out.hrm); obtain ⟨s1yg', s1yc', s1y1', s1y2', _, s1y4'⟩ := GD.intAt g1y.out.gm (j := 3) (by omega) (l := d.row) (g1y.out.x3.trans (congrArg ints (kq.row))) (at_nat hd.out.hrn); rw [s1y1] at s1y1'; cases s1y1'; have s1yb := g1y.out.gm.cells.2.2.2.1; rw [s1y1] at s1yb; have s1yi : (mi : Int) < (d.row.length : Int) := by omega
      have s1yj : (ni : Int) < (d.row.length : Int) := by omega
      clear s1y1
      by_cases hk6 : km = 6
      ·rw [if_pos hk6] at hgo
       subst hk6; have HR : ∀ q, Calls Try.prog 90 #[.pointer (some ⟨b, 0, none⟩), .int .i64 rm, .int .i64 rn] (World.drewN W1y q) fun e w' => e = .returned (.bool ok) ∧ GS (World.drewN W1y q) b G1y w' d' := fun q => (g1y.out.quiet ((Ch.refl _ _).dn q)).SameRow hgo; replace HR := hid HR; replace hgo := hid hgo
       go_upto_region 22 with (fail)
       refine wp_region_split 24 3 (by kernel_rfl) rfl (by kernel_rfl) (by kernel_rfl) (by kernel_rfl) ?_; simp only [List.take_succ_cons, List.take_zero]
       repeat (gi_big_quiet_step (fail))
       refine wpQuietIn_nil ?_; intro _ hw'; obtain ⟨nqr1y, hw''⟩ := hw'; subst hw''; refine wpAnyIn_ready (rs := [24]) (by kernel_rfl) (by simp) (AllReadyIn.cons rfl (fun K hK => ?_) AllReadyIn.nil)
       go_simp
       refine ⟨rfl, callsIn_wide.2 ((HR.out _).mono ?_)⟩; rintro e We ⟨rfl, Ge, ge, ce, me⟩
       dsimp only
       refine hK _ _ ?_; clear hK K; refine wpAnyIn_ready (rs := [25]) (by kernel_rfl) (by simp) (AllReadyIn.cons rfl (fun K hK => ?_) AllReadyIn.nil)
       go_simp
       refine hK _ _ ?_; clear hK K; refine wpAnyIn_ready (rs := [26]) (by kernel_rfl) (by simp) (AllReadyIn.cons rfl (fun K hK => ?_) AllReadyIn.nil)
       go_simp
       refine hK _ _ ?_; clear hK K; refine wpAnyIn_done (by kernel_rfl) ?_ _
       go_wp2
       go_ret
       exact ⟨rfl, GS.after ((c1').two c1y' (m1')) ((m1').two m1y' (c1').size) (GS.after ((Ch.refl _ _).dn _) (fun _ h => .inl h) ⟨Ge, ge, ce, me⟩)⟩
      ·rw [if_neg hk6] at hgo
       obtain ⟨rfl, rfl⟩ := Prod.mk.inj (Option.some.inj hgo)
       go_upto_region 22 with (fail)
       go_quiet (fail)
       go_wp2
       go_ret
       exact ⟨rfl, GS.after ((c1').two c1y' (m1')) ((m1').two m1y' (c1').size) ((GS.refl g1y.out).quiet ((Ch.refl _ _).dn _))⟩
    ·rw [if_neg hb0] at hq
     obtain ⟨rfl, rfl⟩ := Prod.mk.inj (Option.some.inj hq); rw [if_neg (by simp)] at hgo; clear hq; obtain ⟨r1g, r1c, r11, r12, _, r14⟩ := GD.intAt g1.out.gm (j := 0) (by omega) (l := d.kind) (g1.out.x0.trans (congrArg ints (kp1.kind))) (at_nat hd.out.hm); obtain ⟨r1g', r1c', r11', r12', _, r14'⟩ := GD.intAt g1.out.gm (j := 0) (by omega) (l := d.kind) (g1.out.x0.trans (congrArg ints (kp1.kind))) (at_nat hd.out.hn); rw [r11] at r11'; cases r11'; have r1b := g1.out.gm.cells.1; rw [r11] at r1b; have r1i : (mi : Int) < (d.kind.length : Int) := by omega
     have r1j : (ni : Int) < (d.kind.length : Int) := by omega
     clear r11; obtain ⟨s1g, s1c, s11, s12, _, s14⟩ := GD.intAt g1.out.gm (j := 3) (by omega) (l := d.row) (g1.out.x3.trans (congrArg ints (kp1.row))) (at_nat hd.out.hrm); obtain ⟨s1g', s1c', s11', s12', _, s14'⟩ := GD.intAt g1.out.gm (j := 3) (by omega) (l := d.row) (g1.out.x3.trans (congrArg ints (kp1.row))) (at_nat hd.out.hrn); rw [s11] at s11'; cases s11'; have s1b := g1.out.gm.cells.2.2.2.1; rw [s11] at s1b; have s1i : (mi : Int) < (d.row.length : Int) := by omega
     have s1j : (ni : Int) < (d.row.length : Int) := by omega
     clear s11
     by_cases hk6 : km = 6
     ·rw [if_pos hk6] at hgo
      subst hk6; have HR : ∀ q, Calls Try.prog 90 #[.pointer (some ⟨b, 0, none⟩), .int .i64 rm, .int .i64 rn] (World.drewN W1 q) fun e w' => e = .returned (.bool ok) ∧ GS (World.drewN W1 q) b G1 w' d' := fun q => (g1.out.quiet ((Ch.refl _ _).dn q)).SameRow hgo; replace HR := hid HR; replace hgo := hid hgo
      go_upto_region 22 with (fail)
      refine wp_region_split 24 3 (by kernel_rfl) rfl (by kernel_rfl) (by kernel_rfl) (by kernel_rfl) ?_; simp only [List.take_succ_cons, List.take_zero]
      repeat (gi_big_quiet_step (fail))
      refine wpQuietIn_nil ?_; intro _ hw'; obtain ⟨nqr1, hw''⟩ := hw'; subst hw''; refine wpAnyIn_ready (rs := [24]) (by kernel_rfl) (by simp) (AllReadyIn.cons rfl (fun K hK => ?_) AllReadyIn.nil)
      go_simp
      refine ⟨rfl, callsIn_wide.2 ((HR.out _).mono ?_)⟩; rintro e We ⟨rfl, Ge, ge, ce, me⟩
      dsimp only
      refine hK _ _ ?_; clear hK K; refine wpAnyIn_ready (rs := [25]) (by kernel_rfl) (by simp) (AllReadyIn.cons rfl (fun K hK => ?_) AllReadyIn.nil)
      go_simp
      refine hK _ _ ?_; clear hK K; refine wpAnyIn_ready (rs := [26]) (by kernel_rfl) (by simp) (AllReadyIn.cons rfl (fun K hK => ?_) AllReadyIn.nil)
      go_simp
      refine hK _ _ ?_; clear hK K; refine wpAnyIn_done (by kernel_rfl) ?_ _
      go_wp2
      go_ret
      exact ⟨rfl, GS.after (c1') (m1') (GS.after ((Ch.refl _ _).dn _) (fun _ h => .inl h) ⟨Ge, ge, ce, me⟩)⟩
     ·rw [if_neg hk6] at hgo
      obtain ⟨rfl, rfl⟩ := Prod.mk.inj (Option.some.inj hgo)
      go_upto_region 22 with (fail)
      go_quiet (fail)
      go_wp2
      go_ret
      exact ⟨rfl, GS.after (c1') (m1') ((GS.refl g1.out).quiet ((Ch.refl _ _).dn _))⟩
theorem Same_any (b f : Nat) : ∀ k, SameOK b f k
 | 0 => fun _ h => by cases h
 | k + 1 => Same_step (Same_any b f k)
end Go.Proofs.Ytejciampbnfbhaa

namespace Go.Proofs.Ytejciampbnfbhaa
open Go.RowKit
namespace Dg
def mput (k v : Int) : List (Int × Int) → List (Int × Int)
 | [] => [(k, v)]
 | p :: r => if k = p.1 then (k, v) :: r else p :: mput k v r
theorem mput_new {k v : Int} : ∀ {l : List (Int × Int)}, l.lookup k = none → mput k v l = l ++ [(k, v)]
 | [], _ => rfl
 | p :: r, h => by
  have e : ¬ k = p.1 := fun e => by simp [List.lookup, e] at h
  have e2 : (k == p.1) = false := by simpa using e
  have : r.lookup k = none := by simpa [List.lookup, e2] using h
  simp [mput, e, mput_new this]
end Dg
theorem findNow_int (k : Int) : ∀ (es : List MapEntry) (l : List (Int × Int)) (i : Nat), es.map (fun e => (e.key, e.val)) = l.map (fun p => (Value.int .i64 p.1, Value.int .i64 p.2)) →
  (l.lookup k = none → Instr.findNow (.int .i64) (.int .i64 k) es i = some none) ∧ (∀ v, l.lookup k = some v → ∃ j, Instr.findNow (.int .i64) (.int .i64 k) es i = some (some (i + j, .int .i64 v)) ∧ (es[j]?).map (·.key) = some (.int .i64 k) ∧
   ∀ v' : Int, (es.modify j fun e => { e with key := .int .i64 k, val := .int .i64 v' }).map (fun e => (e.key, e.val)) = (Dg.mput k v' l).map (fun p => (Value.int .i64 p.1, Value.int .i64 p.2)))
 | [], [], i, _ => ⟨fun _ => rfl, fun v h => by cases h⟩
 | [], _ :: _, _, h => by cases h
 | _ :: _, [], _, h => by cases h
 | e :: es, p :: l, i, h => by
  simp only [List.map_cons, List.cons.injEq, Prod.mk.injEq] at h
  obtain ⟨⟨hk, hv⟩, hr⟩ := h
  obtain ⟨h1, h2⟩ := findNow_int k es l (i + 1) hr
  by_cases e1 : k = p.1
  ·refine ⟨fun h => by simp [List.lookup, e1] at h, fun v h => ⟨0, ?_, ?_, fun v' => ?_⟩⟩
   ·have : p.2 = v := by simpa [List.lookup, e1] using h
    simp [Instr.findNow, Instr.sameNow, hk, hv, this, e1]
   ·simp [hk, e1]
   ·simp [Dg.mput, e1, hr, List.modify_zero_cons]
  ·have e2 : (k == p.1) = false := by simp [e1]
   refine ⟨fun h => ?_, fun v h => ?_⟩
   ·have : l.lookup k = none := by simpa [List.lookup, e2] using h
    simp [Instr.findNow, Instr.sameNow, hk, h1 this, e2]
   ·have : l.lookup k = some v := by simpa [List.lookup, e2] using h
    obtain ⟨j, hj, hj2, hj3⟩ := h2 v this; refine ⟨j + 1, ?_, by simpa using hj2, fun v' => ?_⟩
    ·have e3 : i + 1 + j = i + (j + 1) := by omega
     simp [Instr.findNow, Instr.sameNow, hk, hj, e2, e3]
    ·simp [Dg.mput, e1, hj3 v', hk, hv]
theorem Try.und3 : Try.prog.underlying 3 = some (.int .i64) := by kernel_rfl
theorem Try.undII : Try.prog.underlying 77 = some (.map 3 3) := by kernel_rfl
theorem ckInt (k : Int) (e : Bool) (w : World) : (Instr.checkKey e 10000 3 (.int .i64 k)).run Try.prog w = .ok () w := by
 unfold Instr.checkKey
 simp only [Sem.run_bind, run_underlying Try.und3, Result.andThen]
 rfl
theorem zero3 (w : World) : (zeroValue 3).run Try.prog w = .ok (.int .i64 0) w := by kernel_rfl
theorem run_look {w : World} {mB : Nat} {l : List (Int × Int)} (h : MI w mB l) (k : Int) : (Instr.lookup 77 (.map (some mB)) (.int .i64 k) false).run Try.prog w = .ok (.int .i64 ((l.lookup k).getD 0)) w := by
 obtain ⟨es, clock, hb, he⟩ := h
 obtain ⟨h1, h2⟩ := findNow_int k es.toList l 0 he
 cases hk : l.lookup k with
 | none =>
  simp only [Instr.lookup, Sem.run_bind, run_underlying Try.undII, Result.andThen_ok, MapKept.run_getObj_map hb, Sem.run_pure, ckInt, MapKept.run_findKey Try.und3 (h1 hk), zero3]
  rfl
 | some v =>
  obtain ⟨j, hj, _⟩ := h2 v hk
  simp only [Instr.lookup, Sem.run_bind, run_underlying Try.undII, Result.andThen_ok, MapKept.run_getObj_map hb, Sem.run_pure, ckInt, MapKept.run_findKey Try.und3 hj]
  rfl
theorem run_lookOk {w : World} {mB : Nat} {l : List (Int × Int)} (h : MI w mB l) (k : Int) : (Instr.lookup 77 (.map (some mB)) (.int .i64 k) true).run Try.prog w = .ok (.tuple #[.int .i64 ((l.lookup k).getD 0), .bool (l.lookup k).isSome]) w := by
 obtain ⟨es, clock, hb, he⟩ := h
 obtain ⟨h1, h2⟩ := findNow_int k es.toList l 0 he
 cases hk : l.lookup k with
 | none =>
  simp only [Instr.lookup, Sem.run_bind, run_underlying Try.undII, Result.andThen_ok, MapKept.run_getObj_map hb, Sem.run_pure, ckInt, MapKept.run_findKey Try.und3 (h1 hk), zero3]
  rfl
 | some v =>
  obtain ⟨j, hj, _⟩ := h2 v hk
  simp only [Instr.lookup, Sem.run_bind, run_underlying Try.undII, Result.andThen_ok, MapKept.run_getObj_map hb, Sem.run_pure, ckInt, MapKept.run_findKey Try.und3 hj]
  rfl
theorem keyStays (k : Int) (w : World) : (Instr.keyThatStays (.int .i64 k) (.int .i64 k)).run Try.prog w = .ok (.int .i64 k) w := by
 have : Instr.sameBits 10000 (.int .i64 k) (.int .i64 k) = true := by simp [Instr.sameBits]
 simp [Instr.keyThatStays, this]
def wput (w : World) (mB : Nat) (o : Obj) : World := { w with heap := w.heap.setIfInBounds mB o }
theorem run_upd {w : World} {mB : Nat} {l : List (Int × Int)} (h : MI w mB l) (k v : Int) : ∃ w', (Instr.mapUpdate 77 (.map (some mB)) (.int .i64 k) (.int .i64 v)).run Try.prog w = .ok () w' ∧ MI w' mB (Dg.mput k v l) ∧ Ch (fun j => j = mB) w w' := by
 obtain ⟨es, clock, hb, he⟩ := h
 obtain ⟨h1, h2⟩ := findNow_int k es.toList l 0 he
 cases hk : l.lookup k with
 | none =>
  refine ⟨wput w mB (.map (es.push { key := .int .i64 k, val := .int .i64 v, born := clock }) (clock + 1)), ?_, ⟨_, _, (MapKept.heap_set hb).1, ?_⟩, ⟨by simp [wput], fun j _ hne => (MapKept.heap_set hb).2 j hne, rfl, rfl⟩⟩
  ·simp only [Instr.mapUpdate, Sem.run_bind, run_underlying Try.undII, Result.andThen_ok, MapKept.run_getObj_map hb, ckInt, MapKept.run_findKey Try.und3 (h1 hk)]
   exact MapKept.run_setObj_map _ hb
  ·rw [Dg.mput_new hk]; simp [he]
 | some v0 =>
  obtain ⟨j, hj, hj2, hj3⟩ := h2 v0 hk
  rw [Nat.zero_add] at hj
  have hjk : (es[j]?).map (·.key) = some (.int .i64 k) := by simpa using hj2
  refine ⟨wput w mB (.map (es.modify j fun e => { e with key := .int .i64 k, val := .int .i64 v }) clock), ?_, ⟨_, _, (MapKept.heap_set hb).1, ?_⟩, ⟨by simp [wput], fun j _ hne => (MapKept.heap_set hb).2 j hne, rfl, rfl⟩⟩
  ·simp only [Instr.mapUpdate, Sem.run_bind, run_underlying Try.undII, Result.andThen_ok, MapKept.run_getObj_map hb, ckInt, MapKept.run_findKey Try.und3 hj, hjk, Option.getD_some, keyStays]
   exact MapKept.run_setObj_map _ hb
  ·rw [Array.toList_modify]
   exact hj3 v
end Go.Proofs.Ytejciampbnfbhaa

namespace Go.Proofs.Ytejciampbnfbhaa
open Go.RowKit
namespace Dg
def round (f : Nat) : Nat → D → Int → List (Int × Int) → Option (Bool × List (Int × Int))
 | 0, _, _, _ => none
 | k + 1, d, n, s => (find f d.link n).bind fun n =>
  if 0 < (s.lookup n).getD 0 then some (decide ((s.lookup n).getD 0 = 1), s) else
  (at? d.a n).bind fun a => (at? d.b n).bind fun b =>
  (if 0 ≤ a then round f k d a (mput n 1 s) else some (false, mput n 1 s)).bind fun p => if p.1 = true then some (true, p.2) else
  (if 0 ≤ b then round f k d b p.2 else some (false, p.2)).bind fun q => if q.1 = true then some (true, q.2) else some (false, mput n 2 q.2)
end Dg
def Gg.out (G : Gg) (b s : Nat) : Prop := ¬ G.own b s ∧ ∀ (i : Nat) u, (G.xs 5)[i]? = some u → u.ownBlock ≠ some s
theorem GD.aside {w w' : World} {b s : Nat} {G : Gg} {d : Dg.D} (h : GD w b G d) (ho : G.out b s) (hc : Ch (fun j => j = s) w w') : GD w' b G d :=
 h.apart hc (fun k hk e => ho.1 (e ▸ hk)) (fun i u k hu hk e => ho.2 i u hu (e ▸ hk))
theorem Ch.same_two {s : Nat} {a b c : World} (h : Ch (fun j => j = s) a b) (k : Ch (fun j => j = s) b c) : Ch (fun j => j = s) a c := h.trans k (fun _ h => .inl h)
def RoundOK (b s f k : Nat) : Prop := ∀ {w : World} {G : Gg} {d : Dg.D} {n : Int} {l l' : List (Int × Int)} {r : Bool}, GD w b G d → G.out b s → MI w s l → Dg.round f k d n l = some (r, l') →
 Calls Try.prog 91 #[.pointer (some ⟨b, 0, none⟩), .int .i64 n, .map (some s)] w fun e w' => e = .returned (.bool r) ∧ MI w' s l' ∧ Ch (fun j => j = s) w w'
theorem Round_step {b s f k : Nat} (ih : RoundOK b s f k) : RoundOK b s f (k + 1) := by
 intro w G d n l l' r h ho hs hr
 unfold Dg.round at hr
 obtain ⟨n', fn, hr1⟩ := Option.bind_eq_some_iff.1 hr
 clear hr
 have H1 := h.Find fn
 obtain ⟨ni, rfl, hnl⟩ := find_at fn
 clear fn
 have n0 : (0 : Int) ≤ ni := by omega
 have hlk := run_look hs (ni : Int)
 replace ih := @hid _ @ih
 replace h := hid h
 go_enter Try.func91, Try.ntmps91
 go_upto_region 2 with (go_at_call 57; refine H1.mono ?_; clear H1; rintro e w1 ⟨rfl, hw1⟩; obtain rfl := hw1.symm)
 by_cases hx : 0 < (l.lookup (ni : Int)).getD 0
 ·rw [if_pos hx] at hr1
  obtain ⟨rfl, rfl⟩ := Prod.mk.inj (Option.some.inj hr1)
  replace hs := hid hs
  go_wp2
  go_ret
  exact ⟨by first | rfl | simp | (congr 2), hs.out, Ch.refl _ _⟩
 ·rw [if_neg hx] at hr1
  obtain ⟨a, ha, hr2⟩ := Option.bind_eq_some_iff.1 hr1
  obtain ⟨c, hc, hr3⟩ := Option.bind_eq_some_iff.1 hr2
  obtain ⟨⟨pr, l1⟩, hp, hr4⟩ := Option.bind_eq_some_iff.1 hr3
  obtain ⟨w1, hu, s1, c1⟩ := run_upd hs (ni : Int) 1
  have g1 := hid (h.out.aside ho c1)
  generalize (l.lookup (ni : Int)).getD 0 = x at *
  clear hr1 hr2 hr3 hs
  replace hr4 := hid hr4
  replace hp := hid hp
  replace s1 := hid s1
  go_upto_region 5 with (fail)
  clear hu hlk hx
  obtain ⟨xg, xc, x1, x2, _, x4⟩ := GD.intAt g1.out.gm (j := 1) (by omega) g1.out.x1 (at_nat ha)
  have xb := g1.out.gm.cells.2.1
  rw [x1] at xb
  have xi : (ni : Int) < (d.a.length : Int) := by omega
  clear x1
  by_cases ha0 : 0 ≤ a
  ·have hp2 := hp.out
   rw [if_pos ha0] at hp2; have HR := ih.out g1.out ho s1.out hp2; clear hp2 hp
   cases pr with
   | true =>
    go_wp2_with (go_at_call 91; refine HR.mono ?_; clear HR; rintro e w2 ⟨rfl, s2, c2⟩)
    go_ret
    have hr6 := hr4.out; simp only [if_true, Option.some.injEq, Prod.mk.injEq] at hr6; obtain ⟨rfl, rfl⟩ := hr6; exact ⟨rfl, s2, c1.same_two c2⟩
   | false =>
    have hr6 := hr4.out; simp only [Bool.false_eq_true, if_false] at hr6; replace hr4 := hid hr6; clear hr6
    go_upto_region 9 with (go_at_call 91; refine HR.mono ?_; clear HR; rintro e w2 ⟨rfl, s2, c2⟩; have g2 := hid (g1.out.aside ho c2); replace s2 := hid s2)
    obtain ⟨⟨qr, l2⟩, hq, hr5⟩ := Option.bind_eq_some_iff.1 hr4.out; clear hr4; obtain ⟨yg, yc, y1, y2, _, y4⟩ := GD.intAt g2.out.gm (j := 2) (by omega) g2.out.x2 (at_nat hc); have yb := g2.out.gm.cells.2.2.1; rw [y1] at yb; have yi : (ni : Int) < (d.b.length : Int) := by omega
    clear y1
    by_cases hc0 : 0 ≤ c
    ·rw [if_pos hc0] at hq
     have HR := ih.out g2.out ho s2.out hq; replace hr5 := hid hr5; clear hq
     cases qr with
     | true =>
      go_wp2_with (go_at_call 91; refine HR.mono ?_; clear HR; rintro e w3 ⟨rfl, s3, c3⟩)
      go_ret
      have hr6 := hr5.out; simp only [if_true, Option.some.injEq, Prod.mk.injEq] at hr6; obtain ⟨rfl, rfl⟩ := hr6; exact ⟨rfl, s3, (c1.same_two c2).same_two c3⟩
     | false =>
      go_upto_region 13 with (go_at_call 91; refine HR.mono ?_; clear HR; rintro e w3 ⟨rfl, s3, c3⟩)
      obtain ⟨w4, hu4, s4, c4⟩ := run_upd s3 (ni : Int) 2; replace s4 := hid s4; clear s3
      go_wp2
      go_ret
      have hr6 := hr5.out; simp only [Bool.false_eq_true, if_false] at hr6; obtain ⟨rfl, rfl⟩ := Prod.mk.inj (Option.some.inj hr6); exact ⟨rfl, s4.out, ((c1.same_two c2).same_two c3).same_two c4⟩
    ·rw [if_neg hc0] at hq
     obtain ⟨rfl, rfl⟩ := Prod.mk.inj (Option.some.inj hq); simp only [Bool.false_eq_true, if_false] at hr5; obtain ⟨rfl, rfl⟩ := Prod.mk.inj (Option.some.inj hr5)
     go_upto_region 13 with (fail)
     obtain ⟨w4, hu4, s4, c4⟩ := run_upd s2.out (ni : Int) 2; replace s4 := hid s4
     go_wp2
     go_ret
     exact ⟨rfl, s4.out, (c1.same_two c2).same_two c4⟩
  ·have hp2 := hp.out
   rw [if_neg ha0] at hp2; obtain ⟨rfl, rfl⟩ := Prod.mk.inj (Option.some.inj hp2); clear hp hp2; have hr6 := hr4.out; simp only [Bool.false_eq_true, if_false] at hr6; replace hr4 := hid hr6; clear hr6
   go_upto_region 9 with (fail)
   obtain ⟨⟨qr, l2⟩, hq, hr5⟩ := Option.bind_eq_some_iff.1 hr4.out; clear hr4; obtain ⟨yg, yc, y1, y2, _, y4⟩ := GD.intAt g1.out.gm (j := 2) (by omega) g1.out.x2 (at_nat hc); have yb := g1.out.gm.cells.2.2.1; rw [y1] at yb; have yi : (ni : Int) < (d.b.length : Int) := by omega
   clear y1
   by_cases hc0 : 0 ≤ c
   ·rw [if_pos hc0] at hq
    have HR := ih.out g1.out ho s1.out hq; replace hr5 := hid hr5; clear hq
    cases qr with
    | true =>
     go_wp2_with (go_at_call 91; refine HR.mono ?_; clear HR; rintro e w3 ⟨rfl, s3, c3⟩)
     go_ret
     have hr6 := hr5.out; simp only [if_true, Option.some.injEq, Prod.mk.injEq] at hr6; obtain ⟨rfl, rfl⟩ := hr6; exact ⟨rfl, s3, (c1).same_two c3⟩
    | false =>
     go_upto_region 13 with (go_at_call 91; refine HR.mono ?_; clear HR; rintro e w3 ⟨rfl, s3, c3⟩)
     obtain ⟨w4, hu4, s4, c4⟩ := run_upd s3 (ni : Int) 2; replace s4 := hid s4; clear s3
     go_wp2
     go_ret
     have hr6 := hr5.out; simp only [Bool.false_eq_true, if_false] at hr6; obtain ⟨rfl, rfl⟩ := Prod.mk.inj (Option.some.inj hr6); exact ⟨rfl, s4.out, ((c1).same_two c3).same_two c4⟩
   ·rw [if_neg hc0] at hq
    obtain ⟨rfl, rfl⟩ := Prod.mk.inj (Option.some.inj hq); simp only [Bool.false_eq_true, if_false] at hr5; obtain ⟨rfl, rfl⟩ := Prod.mk.inj (Option.some.inj hr5)
    go_upto_region 13 with (fail)
    obtain ⟨w4, hu4, s4, c4⟩ := run_upd s1.out (ni : Int) 2; replace s4 := hid s4
    go_wp2
    go_ret
    exact ⟨rfl, s4.out, (c1).same_two c4⟩
theorem Round_any (b s f : Nat) : ∀ k, RoundOK b s f k
 | 0 => fun _ _ _ h => by cases h
 | k + 1 => Round_step (Round_any b s f k)
end Go.Proofs.Ytejciampbnfbhaa
