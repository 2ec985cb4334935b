/-
  The document's Same: plain laws; a link in memory.
  The document's Same.
-/
import Derived.Test.YtficijneelpmcaaGreatMDee
import Derived.Test.YtficijneelpmcaaGreatRq
set_option linter.unusedVariables false
set_option linter.unusedSimpArgs false
namespace Go.Proofs.YtficijneelpmcaaGreat
open Go.RowKit
attribute [local simp] wide_fn

namespace Dg
/-- What making the same leaves as it is. -/
structure Kept (d d' : D) : Prop where
  kind : d'.kind = d.kind
  a : d'.a = d.a
  b : d'.b = d.b
  row : d'.row = d.row
  tv : d'.tv = d.tv
  rv : d'.rv = d.rv
theorem Kept.refl (d : D) : Kept d d := ⟨rfl, rfl, rfl, rfl, rfl, rfl⟩
theorem Kept.trans {d e g : D} (h : Kept d e) (k : Kept e g) : Kept d g := ⟨k.kind.trans h.kind, k.a.trans h.a, k.b.trans h.b, k.row.trans h.row, k.tv.trans h.tv, k.rv.trans h.rv⟩
theorem lnk_kept (d : D) (m : Nat) (n : Int) : Kept d (d.lnk m n) := ⟨rfl, rfl, rfl, rfl, rfl, rfl⟩
theorem stands_kept {d d' : D} {v x : Int} {o : List Un.Nm} (h : stands d v o x = some d') : Kept d d' := by
  unfold stands at h
  split at h
  · obtain rfl := Option.some.inj h
    exact ⟨rfl, rfl, rfl, rfl, rfl, rfl⟩
  · cases h
theorem sameRow_kept {f : Nat} {d d' : D} {r s : Int} {ok : Bool} (h : sameRow f d r s = some (ok, d')) : Kept d d' := by
  unfold sameRow at h
  obtain ⟨p, _, h1⟩ := Option.bind_eq_some_iff.1 h
  obtain ⟨q, _, h2⟩ := Option.bind_eq_some_iff.1 h1
  clear h h1
  split at h2
  case isFalse => cases h2
  split at h2
  · obtain ⟨_, rfl⟩ := Prod.mk.inj (Option.some.inj h2)
    exact Kept.refl _
  · split at h2
    · split at h2
      · obtain ⟨_, rfl⟩ := Prod.mk.inj (Option.some.inj h2)
        exact Kept.refl _
      · obtain ⟨e, he, h3⟩ := Option.map_eq_some_iff.1 h2
        obtain ⟨_, rfl⟩ := Prod.mk.inj h3
        exact stands_kept he
    · split at h2
      · split at h2
        · obtain ⟨_, rfl⟩ := Prod.mk.inj (Option.some.inj h2)
          exact Kept.refl _
        · obtain ⟨e, he, h3⟩ := Option.map_eq_some_iff.1 h2
          obtain ⟨_, rfl⟩ := Prod.mk.inj h3
          exact stands_kept he
      · split at h2
        · obtain ⟨e, he, h3⟩ := Option.bind_eq_some_iff.1 h2
          obtain ⟨e2, he2, h4⟩ := Option.map_eq_some_iff.1 h3
          obtain ⟨_, rfl⟩ := Prod.mk.inj h4
          exact Kept.trans (e := d.putRow [] (-1)) ⟨rfl, rfl, rfl, rfl, rfl, rfl⟩ ((stands_kept he).trans (stands_kept he2))
        · cases h2
/-- What is told of a step of same behind its finds: the two are apart, of one kind, and no variables. -/
structure Deep (f k : Nat) (d : D) (m n km am an bm bn rm rn : Int) (ok : Bool) (d' : D) : Prop where
  hm : at? d.kind m = some km
  hn : at? d.kind n = some km
  ham : at? d.a m = some am
  han : at? d.a n = some an
  hbm : at? d.b m = some bm
  hbn : at? d.b n = some bn
  hrm : at? d.row m = some rm
  hrn : at? d.row n = some rn
  go : ((if 0 ≤ am then same f k (d.lnk m.toNat n) am an else some (true, d.lnk m.toNat n)).bind fun p => if p.1 = false then some (false, p.2) else
    (if 0 ≤ bm then same f k p.2 bm bn else some (true, p.2)).bind fun q => if q.1 = false then some (false, q.2) else
    if km = 6 then sameRow f q.2 rm rn else some (true, q.2)) = some (ok, d')
theorem same_cases {f k : Nat} {d d' : D} {m n : Int} {ok : Bool} (h : same f (k + 1) d m n = some (ok, d')) : ∃ m' n', find f d.link m = some m' ∧ find f d.link n = some n' ∧ (
    (m' = n' ∧ ok = true ∧ d' = d) ∨ (m' ≠ n' ∧ at? d.kind m' = some 0 ∧ ok = true ∧ d' = d.lnk m'.toNat n') ∨
    ∃ km kn, m' ≠ n' ∧ at? d.kind m' = some km ∧ km ≠ 0 ∧ at? d.kind n' = some kn ∧ ((kn = 0 ∧ ok = true ∧ d' = d.lnk n'.toNat m') ∨ (kn ≠ 0 ∧ km ≠ kn ∧ ok = false ∧ d' = d) ∨ (kn ≠ 0 ∧ km = kn ∧ ∃ am an bm bn rm rn, Deep f k d m' n' km am an bm bn rm rn ok d'))) := by
  unfold same at h
  obtain ⟨m', h1, h⟩ := Option.bind_eq_some_iff.1 h
  obtain ⟨n', h2, h⟩ := Option.bind_eq_some_iff.1 h
  refine ⟨m', n', h1, h2, ?_⟩
  split at h
  · rename_i e
    obtain ⟨e1, e2⟩ := Prod.mk.inj (Option.some.inj h)
    exact .inl ⟨e, e1.symm, e2.symm⟩
  · rename_i e
    obtain ⟨km, h3, h⟩ := Option.bind_eq_some_iff.1 h
    split at h
    · rename_i e0
      subst e0
      obtain ⟨e1, e2⟩ := Prod.mk.inj (Option.some.inj h)
      exact .inr (.inl ⟨e, h3, e1.symm, e2.symm⟩)
    · rename_i e0
      obtain ⟨kn, h4, h⟩ := Option.bind_eq_some_iff.1 h
      refine .inr (.inr ⟨km, kn, e, h3, e0, h4, ?_⟩)
      split at h
      · rename_i e1
        obtain ⟨e2, e3⟩ := Prod.mk.inj (Option.some.inj h)
        exact .inl ⟨e1, e2.symm, e3.symm⟩
      · rename_i e1
        split at h
        · rename_i e2
          obtain ⟨e3, e4⟩ := Prod.mk.inj (Option.some.inj h)
          exact .inr (.inl ⟨e1, e2, e3.symm, e4.symm⟩)
        · rename_i e2
          have e3 : km = kn := by simpa using e2
          obtain ⟨am, h5, h⟩ := Option.bind_eq_some_iff.1 h
          obtain ⟨an, h6, h⟩ := Option.bind_eq_some_iff.1 h
          obtain ⟨bm, h7, h⟩ := Option.bind_eq_some_iff.1 h
          obtain ⟨bn, h8, h⟩ := Option.bind_eq_some_iff.1 h
          obtain ⟨rm, h9, h⟩ := Option.bind_eq_some_iff.1 h
          obtain ⟨rn, h10, h⟩ := Option.bind_eq_some_iff.1 h
          exact .inr (.inr ⟨e1, e3, am, an, bm, bn, rm, rn, h3, by rw [e3]; exact h4, h5, h6, h7, h8, h9, h10, h⟩)
theorem same_kept {f : Nat} : ∀ {k : Nat} {d d' : D} {m n : Int} {ok : Bool}, same f k d m n = some (ok, d') → Kept d d'
  | 0, _, _, _, _, _, h => by cases h
  | k + 1, d, d', m, n, ok, h => by
    obtain ⟨m', n', _, _, ⟨_, _, rfl⟩ | ⟨_, _, _, rfl⟩ | ⟨km, kn, _, _, _, _, ⟨_, _, rfl⟩ | ⟨_, _, _, rfl⟩ | ⟨_, _, am, an, bm, bn, rm, rn, hd⟩⟩⟩ := same_cases h
    · exact Kept.refl _
    · exact lnk_kept _ _ _
    · exact lnk_kept _ _ _
    · exact Kept.refl _
    · obtain ⟨p, hp, hg⟩ := Option.bind_eq_some_iff.1 hd.go
      have k1 : Kept d p.2 := by
        split at hp
        · exact (lnk_kept d m'.toNat n').trans (same_kept (k := k) (ok := p.1) (d' := p.2) hp)
        · obtain rfl := Option.some.inj hp; exact lnk_kept _ _ _
      split at hg
      · obtain ⟨_, rfl⟩ := Prod.mk.inj (Option.some.inj hg); exact k1
      · obtain ⟨q, hq, hg⟩ := Option.bind_eq_some_iff.1 hg
        have k2 : Kept d q.2 := by
          split at hq
          · exact k1.trans (same_kept (k := k) (ok := q.1) (d' := q.2) hq)
          · obtain rfl := Option.some.inj hq; exact k1
        split at hg
        · obtain ⟨_, rfl⟩ := Prod.mk.inj (Option.some.inj hg); exact k2
        · split at hg
          · exact k2.trans (sameRow_kept hg)
          · obtain ⟨_, rfl⟩ := Prod.mk.inj (Option.some.inj hg); exact k2
end Dg
/-- A link is laid. -/
theorem GD.lnk {w : World} {b : Nat} {G : Gg} {d : Dg.D} (h : GD w b G d) {i : Nat} {g n cap : Nat} (hi : i < d.link.length) (hv : G.v 4 = .slice (some ⟨g, 0, none⟩) n cap) (x : Int) : GS w b G (w.setCell ⟨g, i, none⟩ (.int .i64 x)) (d.lnk i x) := by
  obtain ⟨s1, s2⟩ := h.gm.set (i := 4) (j := i) (by omega) (by rw [h.x4, ints_len]; exact hi) (.int .i64 x) hv
  refine ⟨_, ⟨s1, ?_, ?_, ?_, ?_, ?_, ?_, ?_, fun j o' hj => ?_, h.tv, h.rv⟩, s2, fun k hk => .inl (same_own hk)⟩
  · rw [setRow_xo _ _ _ (by omega), h.x0]; rfl
  · rw [setRow_xo _ _ _ (by omega), h.x1]; rfl
  · rw [setRow_xo _ _ _ (by omega), h.x2]; rfl
  · rw [setRow_xo _ _ _ (by omega), h.x3]; rfl
  · rw [setRow_x, h.x4]; exact ints_set _ _ _
  · rw [setRow_xo _ _ _ (by omega), h.x6]; rfl
  · rw [setRow_xo _ _ _ (by omega)]; exact h.ol
  · obtain ⟨u', u1, u2, u3⟩ := h.ov j o' hj
    exact ⟨u', by rw [setRow_xo _ _ _ (by omega)]; exact u1, u2.keep s2 u3, fun k hk ho => u3 k hk (same_own ho)⟩
end Go.Proofs.YtficijneelpmcaaGreat

namespace Go.Proofs.YtficijneelpmcaaGreat
open Go.RowKit
attribute [local simp] wide_fn

theorem find_at {l : List Int} : ∀ {f : Nat} {n m : Int}, Dg.find f l n = some m → ∃ i : Nat, m = (i : Int) ∧ i < l.length
  | 0, _, _, h => by cases h
  | f + 1, n, m, h => by
    unfold Dg.find at h
    obtain ⟨x, h1, h2⟩ := Option.bind_eq_some_iff.1 h
    split at h2
    · exact find_at h2
    · obtain rfl := Option.some.inj h2
      obtain ⟨i, rfl, hi⟩ := Dg.at_some h1
      exact ⟨i, rfl, (List.getElem?_eq_some_iff.1 hi).1⟩
theorem at_nat {α : Type} {l : List α} {i : Nat} {x : α} (h : Dg.at? l (i : Int) = some x) : l[i]? = some x := by
  obtain ⟨n, e, h⟩ := Dg.at_some h
  obtain rfl : i = n := by omega
  exact h
def SameOK (b f k : Nat) : Prop := ∀ {w : World} {G : Gg} {d d' : Dg.D} {m n : Int} {ok : Bool}, GD w b G d → Dg.same f k d m n = some (ok, d') →
  Calls Tryz.prog 14 #[.pointer (some ⟨b, 0, none⟩), .int .i64 m, .int .i64 n] w fun e w' => e = .returned (.bool ok) ∧ GS w b G w' d'

set_option maxRecDepth 100000 in
set_option maxHeartbeats 16000000 in
theorem Same_step {b f k : Nat} (ih : SameOK b f k) : SameOK b f (k + 1) := by
  intro w G d d' m n ok h hs
  obtain ⟨m', n', fm, fn, hc⟩ := Dg.same_cases hs
  have H1 := h.Find fm
  have H2 := h.Find fn
  obtain ⟨mi, rfl, hml⟩ := find_at fm
  obtain ⟨ni, rfl, hnl⟩ := find_at fn
  clear fm fn hs
  have m0 : (0 : Int) ≤ mi := by omega
  have n0 : (0 : Int) ≤ ni := by omega
  replace ih := @hid _ @ih
  replace hc := hid hc
  replace h := hid h
  go_enter Tryz.func14, Tryz.ntmps14
  go_upto_region 3 with (first
    | (have _g := H1; clear _g; go_at_call 30; refine H1.mono ?_; clear H1; rintro e w1 ⟨rfl, hw1⟩; obtain rfl := hw1.symm)
    | (have _g := H2; clear _g; go_at_call 30; refine H2.mono ?_; clear H2; rintro e w1 ⟨rfl, hw1⟩; obtain rfl := hw1.symm))
  rcases hc.out with ⟨e1, rfl, rfl⟩ | ⟨e1, hk, rfl, rfl⟩ | ⟨km, kn, e1, hkm, hkm0, hkn, hc2⟩
  · clear hc
    have e2 : mi = ni := by omega
    subst e2
    go_wp2
    go_ret
    exact ⟨rfl, GS.refl h.out⟩
  · clear hc
    obtain ⟨kg, kc, k1, k2, _, k4⟩ := GD.intAt h.out.gm (j := 0) (by omega) h.out.x0 (at_nat hk)
    have b0 := h.out.gm.cells.1
    rw [k1] at b0
    obtain ⟨lx, hlx⟩ : ∃ lx, d.link[mi]? = some lx := ⟨d.link[mi], by simp⟩
    obtain ⟨lg, lc, l1, l2, l3, l4⟩ := GD.intAt h.out.gm (j := 4) (by omega) h.out.x4 hlx
    have b4 := h.out.gm.cells.2.2.2.2.1
    rw [l1] at b4
    have i1 : (mi : Int) < (d.kind.length : Int) := by omega
    have i2 : (mi : Int) < (d.link.length : Int) := by omega
    have hend := hid (h.out.lnk (i := mi) hml l1 (ni : Int))
    clear hk hlx k1 l1
    go_wp2
    go_ret
    rw [Int.toNat_natCast]
    exact ⟨rfl, hend.out⟩
  · clear hc
    obtain ⟨kg, kc, k1, k2, _, k4⟩ := GD.intAt h.out.gm (j := 0) (by omega) h.out.x0 (at_nat hkm)
    obtain ⟨kg', kc', k1', k2', _, k4'⟩ := GD.intAt h.out.gm (j := 0) (by omega) h.out.x0 (at_nat hkn)
    rw [k1] at k1'
    cases k1'
    have b0 := h.out.gm.cells.1
    rw [k1] at b0
    have i1 : (mi : Int) < (d.kind.length : Int) := by omega
    have i2 : (ni : Int) < (d.kind.length : Int) := by omega
    rcases hc2 with ⟨rfl, rfl, rfl⟩ | ⟨hkn0, hne, rfl, rfl⟩ | ⟨hkn0, rfl, am, an, bm, bn, rm, rn, hd⟩
    · obtain ⟨lx, hlx⟩ : ∃ lx, d.link[ni]? = some lx := ⟨d.link[ni], by simp⟩
      obtain ⟨lg, lc, l1, l2, l3, l4⟩ := GD.intAt h.out.gm (j := 4) (by omega) h.out.x4 hlx
      have b4 := h.out.gm.cells.2.2.2.2.1
      rw [l1] at b4
      have i3 : (ni : Int) < (d.link.length : Int) := by omega
      have hend := hid (h.out.lnk (i := ni) hnl l1 (mi : Int))
      clear hkm hkn hlx k1 l1
      go_wp2
      go_ret
      rw [Int.toNat_natCast]
      exact ⟨rfl, hend.out⟩
    · clear hkm hkn k1
      go_wp2
      go_quiet (fail)
      go_wp2
      go_ret
      exact ⟨rfl, (GS.refl h.out).quiet ((Ch.refl _ _).dn _)⟩
    · obtain ⟨lx, hlx⟩ : ∃ lx, d.link[mi]? = some lx := ⟨d.link[mi], by simp⟩
      obtain ⟨lg, lc, l1, l2, l3, l4⟩ := GD.intAt h.out.gm (j := 4) (by omega) h.out.x4 hlx
      have b4 := h.out.gm.cells.2.2.2.2.1
      rw [l1] at b4
      have i3 : (mi : Int) < (d.link.length : Int) := by omega
      replace hd := hid hd
      clear hkm hkn hlx
      go_upto_region 11 with (fail)
      go_quiet (fail)
      obtain ⟨G1, g1, c1, m1⟩ := (h.out.quiet ((Ch.refl _ w).dn nq)).lnk (i := mi) hml l1 (ni : Int)
      have m1' : More w (G.own b) (G1.own b) := m1
      have c1' : Ch (G.own b) w ((w.drewN nq).setCell ⟨lg, mi, none⟩ (.int .i64 (ni : Nat))) := ((Ch.refl (G.own b) w).dn nq).trans c1 (fun _ h => .inl h)
      clear l1 k1 c1 m1
      go_upto_region 14 with (fail)
      generalize World.setCell (w.drewN nq) ⟨lg, mi, none⟩ _ = W1 at g1 c1' ⊢
      clear b0 b4 k2 k2' l2 l3
      replace g1 := hid g1
      have kp1 : Dg.Kept d (d.lnk mi ni) := Dg.lnk_kept _ _ _
      obtain ⟨pg, pc, p1, p2, _, p4⟩ := GD.intAt g1.out.gm (j := 1) (by omega) (l := d.a) (g1.out.x1.trans (congrArg ints (kp1.a))) (at_nat hd.out.ham)
      obtain ⟨pg', pc', p1', p2', _, p4'⟩ := GD.intAt g1.out.gm (j := 1) (by omega) (l := d.a) (g1.out.x1.trans (congrArg ints (kp1.a))) (at_nat hd.out.han)
      rw [p1] at p1'
      cases p1'
      have pb := g1.out.gm.cells.2.1
      rw [p1] at pb
      have pi : (mi : Int) < (d.a.length : Int) := by omega
      have pj : (ni : Int) < (d.a.length : Int) := by omega
      clear p1
      obtain ⟨⟨ok1, d1⟩, hp, hgo⟩ := Option.bind_eq_some_iff.1 hd.out.go
      simp only [Int.toNat_natCast] at hp hgo
      by_cases ha0 : 0 ≤ am
      · rw [if_pos ha0] at hp
        have kx : Dg.Kept d d1 := kp1.trans (Dg.same_kept hp)
        have HS : ∀ q, Calls Tryz.prog 14 #[.pointer (some ⟨b, 0, none⟩), .int .i64 am, .int .i64 an] (W1.drewN q) fun e w' => e = .returned (.bool ok1) ∧ GS (W1.drewN q) b G1 w' d1 := fun q => ih.out (g1.out.quiet ((Ch.refl _ _).dn q)) hp
        replace HS := hid HS
        replace hgo := hid hgo
        clear hp
        go_upto_region 15 with (fail)
        refine wp_region_split 15 2 (by kernel_rfl) rfl (by kernel_rfl) (by kernel_rfl) (by kernel_rfl) ?_
        simp only [List.take_succ_cons, List.take_zero]
        repeat (gi_big_quiet_step (fail))
        refine wpQuietIn_nil ?_
        intro _ hw'
        obtain ⟨nq1, hw''⟩ := hw'
        subst hw''
        refine wpAnyIn_ready (rs := [15]) (by kernel_rfl) (by simp) (AllReadyIn.cons rfl (fun K hK => ?_) AllReadyIn.nil)
        go_simp
        refine ⟨rfl, callsIn_wide.2 ((HS.out _).mono ?_)⟩
        rintro e W2 ⟨rfl, G2, g2, c2, m2⟩
        dsimp only
        refine hK _ _ ?_
        clear hK K
        refine wpAnyIn_ready (rs := [16]) (by kernel_rfl) (by simp) (AllReadyIn.cons rfl (fun K hK => ?_) AllReadyIn.nil)
        go_simp
        refine hK _ _ ?_
        clear hK K
        refine wpAnyIn_done (by kernel_rfl) ?_ _
        have c2' : Ch (G1.own b) W1 W2 := ((Ch.refl (G1.own b) W1).dn _).trans c2 (fun _ h => .inl h)
        have m2' : More W1 (G1.own b) (G2.own b) := m2
        clear c2 m2 HS
        replace g2 := hid g2
        replace hgo := hgo.out
        cases ok1 with
        | false =>
          rw [if_pos rfl] at hgo
          obtain ⟨rfl, rfl⟩ := Prod.mk.inj (Option.some.inj hgo)
          go_wp2
          go_ret
          exact ⟨rfl, GS.after c1' m1' ⟨G2, g2.out, c2', m2'⟩⟩
        | true =>
          rw [if_neg (by simp)] at hgo
          obtain ⟨q2g, q2c, q21, q22, _, q24⟩ := GD.intAt g2.out.gm (j := 2) (by omega) (l := d.b) (g2.out.x2.trans (congrArg ints (kx.b))) (at_nat hd.out.hbm)
          obtain ⟨q2g', q2c', q21', q22', _, q24'⟩ := GD.intAt g2.out.gm (j := 2) (by omega) (l := d.b) (g2.out.x2.trans (congrArg ints (kx.b))) (at_nat hd.out.hbn)
          rw [q21] at q21'
          cases q21'
          have q2b := g2.out.gm.cells.2.2.1
          rw [q21] at q2b
          have q2i : (mi : Int) < (d.b.length : Int) := by omega
          have q2j : (ni : Int) < (d.b.length : Int) := by omega
          clear q21
          obtain ⟨⟨ok2, d2⟩, hq, hgo2⟩ := Option.bind_eq_some_iff.1 hgo
          clear hgo
          have hgo := hgo2
          clear hgo2
          simp only at hgo
          by_cases hb0 : 0 ≤ bm
          · rw [if_pos hb0] at hq
            have kq : Dg.Kept d d2 := (kx).trans (Dg.same_kept hq)
            have HT : ∀ q, Calls Tryz.prog 14 #[.pointer (some ⟨b, 0, none⟩), .int .i64 bm, .int .i64 bn] (World.drewN W2 q) fun e w' => e = .returned (.bool ok2) ∧ GS (World.drewN W2 q) b G2 w' d2 := fun q => ih.out (g2.out.quiet ((Ch.refl _ _).dn q)) hq
            replace HT := hid HT
            replace hgo := hid hgo
            clear hq
            go_upto_region 19 with (fail)
            refine wp_region_split 15 2 (by kernel_rfl) rfl (by kernel_rfl) (by kernel_rfl) (by kernel_rfl) ?_
            simp only [List.take_succ_cons, List.take_zero]
            repeat (gi_big_quiet_step (fail))
            refine wpQuietIn_nil ?_
            intro _ hw'
            obtain ⟨nqq2, hw''⟩ := hw'
            subst hw''
            refine wpAnyIn_ready (rs := [15]) (by kernel_rfl) (by simp) (AllReadyIn.cons rfl (fun K hK => ?_) AllReadyIn.nil)
            go_simp
            refine ⟨rfl, callsIn_wide.2 ((HT.out _).mono ?_)⟩
            rintro e W2y ⟨rfl, G2y, g2y, c2y, m2y⟩
            dsimp only
            refine hK _ _ ?_
            clear hK K
            refine wpAnyIn_ready (rs := [16]) (by kernel_rfl) (by simp) (AllReadyIn.cons rfl (fun K hK => ?_) AllReadyIn.nil)
            go_simp
            refine hK _ _ ?_
            clear hK K
            refine wpAnyIn_done (by kernel_rfl) ?_ _
            have c2y' : Ch (G2.own b) W2 W2y := ((Ch.refl (G2.own b) W2).dn _).trans c2y (fun _ h => .inl h)
            have m2y' : More W2 (G2.own b) (G2y.own b) := m2y
            clear c2y m2y HT
            replace g2y := hid g2y
            replace hgo := hgo.out
            cases ok2 with
            | false =>
              rw [if_pos rfl] at hgo
              obtain ⟨rfl, rfl⟩ := Prod.mk.inj (Option.some.inj hgo)
              go_wp2
              go_ret
              exact ⟨rfl, GS.after (c1'.two c2' m1') (m1'.two m2' c1'.size) ⟨G2y, g2y.out, c2y', m2y'⟩⟩
            | true =>
              rw [if_neg (by simp)] at hgo
              obtain ⟨r2yg, r2yc, r2y1, r2y2, _, r2y4⟩ := GD.intAt g2y.out.gm (j := 0) (by omega) (l := d.kind) (g2y.out.x0.trans (congrArg ints (kq.kind))) (at_nat hd.out.hm)
              obtain ⟨r2yg', r2yc', r2y1', r2y2', _, r2y4'⟩ := GD.intAt g2y.out.gm (j := 0) (by omega) (l := d.kind) (g2y.out.x0.trans (congrArg ints (kq.kind))) (at_nat hd.out.hn)
              rw [r2y1] at r2y1'
              cases r2y1'
              have r2yb := g2y.out.gm.cells.1
              rw [r2y1] at r2yb
              have r2yi : (mi : Int) < (d.kind.length : Int) := by omega
              have r2yj : (ni : Int) < (d.kind.length : Int) := by omega
              clear r2y1
              obtain ⟨s2yg, s2yc, s2y1, s2y2, _, s2y4⟩ := GD.intAt g2y.out.gm (j := 3) (by omega) (l := d.row) (g2y.out.x3.trans (congrArg ints (kq.row))) (at_nat hd.out.hrm)
              obtain ⟨s2yg', s2yc', s2y1', s2y2', _, s2y4'⟩ := GD.intAt g2y.out.gm (j := 3) (by omega) (l := d.row) (g2y.out.x3.trans (congrArg ints (kq.row))) (at_nat hd.out.hrn)
              rw [s2y1] at s2y1'
              cases s2y1'
              have s2yb := g2y.out.gm.cells.2.2.2.1
              rw [s2y1] at s2yb
              have s2yi : (mi : Int) < (d.row.length : Int) := by omega
              have s2yj : (ni : Int) < (d.row.length : Int) := by omega
              clear s2y1
              by_cases hk6 : km = 6
              · rw [if_pos hk6] at hgo
                subst hk6
                have HR : ∀ q, Calls Tryz.prog 31 #[.pointer (some ⟨b, 0, none⟩), .int .i64 rm, .int .i64 rn] (World.drewN W2y q) fun e w' => e = .returned (.bool ok) ∧ GS (World.drewN W2y q) b G2y w' d' := fun q => (g2y.out.quiet ((Ch.refl _ _).dn q)).SameRow hgo
                replace HR := hid HR
                replace hgo := hid hgo
                go_upto_region 22 with (fail)
                refine wp_region_split 24 3 (by kernel_rfl) rfl (by kernel_rfl) (by kernel_rfl) (by kernel_rfl) ?_
                simp only [List.take_succ_cons, List.take_zero]
                repeat (gi_big_quiet_step (fail))
                refine wpQuietIn_nil ?_
                intro _ hw'
                obtain ⟨nqr2y, hw''⟩ := hw'
                subst hw''
                refine wpAnyIn_ready (rs := [24]) (by kernel_rfl) (by simp) (AllReadyIn.cons rfl (fun K hK => ?_) AllReadyIn.nil)
                go_simp
                refine ⟨rfl, callsIn_wide.2 ((HR.out _).mono ?_)⟩
                rintro e We ⟨rfl, Ge, ge, ce, me⟩
                dsimp only
                refine hK _ _ ?_
                clear hK K
                refine wpAnyIn_ready (rs := [25]) (by kernel_rfl) (by simp) (AllReadyIn.cons rfl (fun K hK => ?_) AllReadyIn.nil)
                go_simp
                refine hK _ _ ?_
                clear hK K
                refine wpAnyIn_ready (rs := [26]) (by kernel_rfl) (by simp) (AllReadyIn.cons rfl (fun K hK => ?_) AllReadyIn.nil)
                go_simp
                refine hK _ _ ?_
                clear hK K
                refine wpAnyIn_done (by kernel_rfl) ?_ _
                go_wp2
                go_ret
                exact ⟨rfl, GS.after ((c1'.two c2' m1').two c2y' (m1'.two m2' c1'.size)) ((m1'.two m2' c1'.size).two m2y' (c1'.two c2' m1').size) (GS.after ((Ch.refl _ _).dn _) (fun _ h => .inl h) ⟨Ge, ge, ce, me⟩)⟩
              · rw [if_neg hk6] at hgo
                obtain ⟨rfl, rfl⟩ := Prod.mk.inj (Option.some.inj hgo)
                go_upto_region 22 with (fail)
                go_quiet (fail)
                go_wp2
                go_ret
                exact ⟨rfl, GS.after ((c1'.two c2' m1').two c2y' (m1'.two m2' c1'.size)) ((m1'.two m2' c1'.size).two m2y' (c1'.two c2' m1').size) ((GS.refl g2y.out).quiet ((Ch.refl _ _).dn _))⟩
          · rw [if_neg hb0] at hq
            obtain ⟨rfl, rfl⟩ := Prod.mk.inj (Option.some.inj hq)
            rw [if_neg (by simp)] at hgo
            clear hq
            obtain ⟨r2g, r2c, r21, r22, _, r24⟩ := GD.intAt g2.out.gm (j := 0) (by omega) (l := d.kind) (g2.out.x0.trans (congrArg ints (kx.kind))) (at_nat hd.out.hm)
            obtain ⟨r2g', r2c', r21', r22', _, r24'⟩ := GD.intAt g2.out.gm (j := 0) (by omega) (l := d.kind) (g2.out.x0.trans (congrArg ints (kx.kind))) (at_nat hd.out.hn)
            rw [r21] at r21'
            cases r21'
            have r2b := g2.out.gm.cells.1
            rw [r21] at r2b
            have r2i : (mi : Int) < (d.kind.length : Int) := by omega
            have r2j : (ni : Int) < (d.kind.length : Int) := by omega
            clear r21
            obtain ⟨s2g, s2c, s21, s22, _, s24⟩ := GD.intAt g2.out.gm (j := 3) (by omega) (l := d.row) (g2.out.x3.trans (congrArg ints (kx.row))) (at_nat hd.out.hrm)
            obtain ⟨s2g', s2c', s21', s22', _, s24'⟩ := GD.intAt g2.out.gm (j := 3) (by omega) (l := d.row) (g2.out.x3.trans (congrArg ints (kx.row))) (at_nat hd.out.hrn)
            rw [s21] at s21'
            cases s21'
            have s2b := g2.out.gm.cells.2.2.2.1
            rw [s21] at s2b
            have s2i : (mi : Int) < (d.row.length : Int) := by omega
            have s2j : (ni : Int) < (d.row.length : Int) := by omega
            clear s21
            by_cases hk6 : km = 6
            · rw [if_pos hk6] at hgo
              subst hk6
              have HR : ∀ q, Calls Tryz.prog 31 #[.pointer (some ⟨b, 0, none⟩), .int .i64 rm, .int .i64 rn] (World.drewN W2 q) fun e w' => e = .returned (.bool ok) ∧ GS (World.drewN W2 q) b G2 w' d' := fun q => (g2.out.quiet ((Ch.refl _ _).dn q)).SameRow hgo
              replace HR := hid HR
              replace hgo := hid hgo
              go_upto_region 22 with (fail)
              refine wp_region_split 24 3 (by kernel_rfl) rfl (by kernel_rfl) (by kernel_rfl) (by kernel_rfl) ?_
              simp only [List.take_succ_cons, List.take_zero]
              repeat (gi_big_quiet_step (fail))
              refine wpQuietIn_nil ?_
              intro _ hw'
              obtain ⟨nqr2, hw''⟩ := hw'
              subst hw''
              refine wpAnyIn_ready (rs := [24]) (by kernel_rfl) (by simp) (AllReadyIn.cons rfl (fun K hK => ?_) AllReadyIn.nil)
              go_simp
              refine ⟨rfl, callsIn_wide.2 ((HR.out _).mono ?_)⟩
              rintro e We ⟨rfl, Ge, ge, ce, me⟩
              dsimp only
              refine hK _ _ ?_
              clear hK K
              refine wpAnyIn_ready (rs := [25]) (by kernel_rfl) (by simp) (AllReadyIn.cons rfl (fun K hK => ?_) AllReadyIn.nil)
              go_simp
              refine hK _ _ ?_
              clear hK K
              refine wpAnyIn_ready (rs := [26]) (by kernel_rfl) (by simp) (AllReadyIn.cons rfl (fun K hK => ?_) AllReadyIn.nil)
              go_simp
              refine hK _ _ ?_
              clear hK K
              refine wpAnyIn_done (by kernel_rfl) ?_ _
              go_wp2
              go_ret
              exact ⟨rfl, GS.after (c1'.two c2' m1') (m1'.two m2' c1'.size) (GS.after ((Ch.refl _ _).dn _) (fun _ h => .inl h) ⟨Ge, ge, ce, me⟩)⟩
            · rw [if_neg hk6] at hgo
              obtain ⟨rfl, rfl⟩ := Prod.mk.inj (Option.some.inj hgo)
              go_upto_region 22 with (fail)
              go_quiet (fail)
              go_wp2
              go_ret
              exact ⟨rfl, GS.after (c1'.two c2' m1') (m1'.two m2' c1'.size) ((GS.refl g2.out).quiet ((Ch.refl _ _).dn _))⟩
      · rw [if_neg ha0] at hp
        obtain ⟨rfl, rfl⟩ := Prod.mk.inj (Option.some.inj hp)
        rw [if_neg (by simp)] at hgo
        clear hp
        obtain ⟨q1g, q1c, q11, q12, _, q14⟩ := GD.intAt g1.out.gm (j := 2) (by omega) (l := d.b) (g1.out.x2.trans (congrArg ints (kp1.b))) (at_nat hd.out.hbm)
        obtain ⟨q1g', q1c', q11', q12', _, q14'⟩ := GD.intAt g1.out.gm (j := 2) (by omega) (l := d.b) (g1.out.x2.trans (congrArg ints (kp1.b))) (at_nat hd.out.hbn)
        rw [q11] at q11'
        cases q11'
        have q1b := g1.out.gm.cells.2.2.1
        rw [q11] at q1b
        have q1i : (mi : Int) < (d.b.length : Int) := by omega
        have q1j : (ni : Int) < (d.b.length : Int) := by omega
        clear q11
        obtain ⟨⟨ok2, d2⟩, hq, hgo2⟩ := Option.bind_eq_some_iff.1 hgo
        clear hgo
        have hgo := hgo2
        clear hgo2
        simp only at hgo
        by_cases hb0 : 0 ≤ bm
        · rw [if_pos hb0] at hq
          have kq : Dg.Kept d d2 := (kp1).trans (Dg.same_kept hq)
          have HT : ∀ q, Calls Tryz.prog 14 #[.pointer (some ⟨b, 0, none⟩), .int .i64 bm, .int .i64 bn] (World.drewN W1 q) fun e w' => e = .returned (.bool ok2) ∧ GS (World.drewN W1 q) b G1 w' d2 := fun q => ih.out (g1.out.quiet ((Ch.refl _ _).dn q)) hq
          replace HT := hid HT
          replace hgo := hid hgo
          clear hq
          go_upto_region 19 with (fail)
          refine wp_region_split 15 2 (by kernel_rfl) rfl (by kernel_rfl) (by kernel_rfl) (by kernel_rfl) ?_
          simp only [List.take_succ_cons, List.take_zero]
          repeat (gi_big_quiet_step (fail))
          refine wpQuietIn_nil ?_
          intro _ hw'
          obtain ⟨nqq1, hw''⟩ := hw'
          subst hw''
          refine wpAnyIn_ready (rs := [15]) (by kernel_rfl) (by simp) (AllReadyIn.cons rfl (fun K hK => ?_) AllReadyIn.nil)
          go_simp
          refine ⟨rfl, callsIn_wide.2 ((HT.out _).mono ?_)⟩
          rintro e W1y ⟨rfl, G1y, g1y, c1y, m1y⟩
          dsimp only
          refine hK _ _ ?_
          clear hK K
          refine wpAnyIn_ready (rs := [16]) (by kernel_rfl) (by simp) (AllReadyIn.cons rfl (fun K hK => ?_) AllReadyIn.nil)
          go_simp
          refine hK _ _ ?_
          clear hK K
          refine wpAnyIn_done (by kernel_rfl) ?_ _
          have c1y' : Ch (G1.own b) W1 W1y := ((Ch.refl (G1.own b) W1).dn _).trans c1y (fun _ h => .inl h)
          have m1y' : More W1 (G1.own b) (G1y.own b) := m1y
          clear c1y m1y HT
          replace g1y := hid g1y
          replace hgo := hgo.out
          cases ok2 with
          | false =>
            rw [if_pos rfl] at hgo
            obtain ⟨rfl, rfl⟩ := Prod.mk.inj (Option.some.inj hgo)
            go_wp2
            go_ret
            exact ⟨rfl, GS.after (c1') (m1') ⟨G1y, g1y.out, c1y', m1y'⟩⟩
          | true =>
            rw [if_neg (by simp)] at hgo
            obtain ⟨r1yg, r1yc, r1y1, r1y2, _, r1y4⟩ := GD.intAt g1y.out.gm (j := 0) (by omega) (l := d.kind) (g1y.out.x0.trans (congrArg ints (kq.kind))) (at_nat hd.out.hm)
            obtain ⟨r1yg', r1yc', r1y1', r1y2', _, r1y4'⟩ := GD.intAt g1y.out.gm (j := 0) (by omega) (l := d.kind) (g1y.out.x0.trans (congrArg ints (kq.kind))) (at_nat hd.out.hn)
            rw [r1y1] at r1y1'
            cases r1y1'
            have r1yb := g1y.out.gm.cells.1
            rw [r1y1] at r1yb
            have r1yi : (mi : Int) < (d.kind.length : Int) := by omega
            have r1yj : (ni : Int) < (d.kind.length : Int) := by omega
            clear r1y1
            obtain ⟨s1yg, s1yc, s1y1, s1y2, _, s1y4⟩ := GD.intAt g1y.out.gm (j := 3) (by omega) (l := d.row) (g1y.out.x3.trans (congrArg ints (kq.row))) (at_nat hd.out.hrm)
            obtain ⟨s1yg', s1yc', s1y1', s1y2', _, s1y4'⟩ := GD.intAt g1y.out.gm (j := 3) (by omega) (l := d.row) (g1y.out.x3.trans (congrArg ints (kq.row))) (at_nat hd.out.hrn)
            rw [s1y1] at s1y1'
            cases s1y1'
            have s1yb := g1y.out.gm.cells.2.2.2.1
            rw [s1y1] at s1yb
            have s1yi : (mi : Int) < (d.row.length : Int) := by omega
            have s1yj : (ni : Int) < (d.row.length : Int) := by omega
            clear s1y1
            by_cases hk6 : km = 6
            · rw [if_pos hk6] at hgo
              subst hk6
              have HR : ∀ q, Calls Tryz.prog 31 #[.pointer (some ⟨b, 0, none⟩), .int .i64 rm, .int .i64 rn] (World.drewN W1y q) fun e w' => e = .returned (.bool ok) ∧ GS (World.drewN W1y q) b G1y w' d' := fun q => (g1y.out.quiet ((Ch.refl _ _).dn q)).SameRow hgo
              replace HR := hid HR
              replace hgo := hid hgo
              go_upto_region 22 with (fail)
              refine wp_region_split 24 3 (by kernel_rfl) rfl (by kernel_rfl) (by kernel_rfl) (by kernel_rfl) ?_
              simp only [List.take_succ_cons, List.take_zero]
              repeat (gi_big_quiet_step (fail))
              refine wpQuietIn_nil ?_
              intro _ hw'
              obtain ⟨nqr1y, hw''⟩ := hw'
              subst hw''
              refine wpAnyIn_ready (rs := [24]) (by kernel_rfl) (by simp) (AllReadyIn.cons rfl (fun K hK => ?_) AllReadyIn.nil)
              go_simp
              refine ⟨rfl, callsIn_wide.2 ((HR.out _).mono ?_)⟩
              rintro e We ⟨rfl, Ge, ge, ce, me⟩
              dsimp only
              refine hK _ _ ?_
              clear hK K
              refine wpAnyIn_ready (rs := [25]) (by kernel_rfl) (by simp) (AllReadyIn.cons rfl (fun K hK => ?_) AllReadyIn.nil)
              go_simp
              refine hK _ _ ?_
              clear hK K
              refine wpAnyIn_ready (rs := [26]) (by kernel_rfl) (by simp) (AllReadyIn.cons rfl (fun K hK => ?_) AllReadyIn.nil)
              go_simp
              refine hK _ _ ?_
              clear hK K
              refine wpAnyIn_done (by kernel_rfl) ?_ _
              go_wp2
              go_ret
              exact ⟨rfl, GS.after ((c1').two c1y' (m1')) ((m1').two m1y' (c1').size) (GS.after ((Ch.refl _ _).dn _) (fun _ h => .inl h) ⟨Ge, ge, ce, me⟩)⟩
            · rw [if_neg hk6] at hgo
              obtain ⟨rfl, rfl⟩ := Prod.mk.inj (Option.some.inj hgo)
              go_upto_region 22 with (fail)
              go_quiet (fail)
              go_wp2
              go_ret
              exact ⟨rfl, GS.after ((c1').two c1y' (m1')) ((m1').two m1y' (c1').size) ((GS.refl g1y.out).quiet ((Ch.refl _ _).dn _))⟩
        · rw [if_neg hb0] at hq
          obtain ⟨rfl, rfl⟩ := Prod.mk.inj (Option.some.inj hq)
          rw [if_neg (by simp)] at hgo
          clear hq
          obtain ⟨r1g, r1c, r11, r12, _, r14⟩ := GD.intAt g1.out.gm (j := 0) (by omega) (l := d.kind) (g1.out.x0.trans (congrArg ints (kp1.kind))) (at_nat hd.out.hm)
          obtain ⟨r1g', r1c', r11', r12', _, r14'⟩ := GD.intAt g1.out.gm (j := 0) (by omega) (l := d.kind) (g1.out.x0.trans (congrArg ints (kp1.kind))) (at_nat hd.out.hn)
          rw [r11] at r11'
          cases r11'
          have r1b := g1.out.gm.cells.1
          rw [r11] at r1b
          have r1i : (mi : Int) < (d.kind.length : Int) := by omega
          have r1j : (ni : Int) < (d.kind.length : Int) := by omega
          clear r11
          obtain ⟨s1g, s1c, s11, s12, _, s14⟩ := GD.intAt g1.out.gm (j := 3) (by omega) (l := d.row) (g1.out.x3.trans (congrArg ints (kp1.row))) (at_nat hd.out.hrm)
          obtain ⟨s1g', s1c', s11', s12', _, s14'⟩ := GD.intAt g1.out.gm (j := 3) (by omega) (l := d.row) (g1.out.x3.trans (congrArg ints (kp1.row))) (at_nat hd.out.hrn)
          rw [s11] at s11'
          cases s11'
          have s1b := g1.out.gm.cells.2.2.2.1
          rw [s11] at s1b
          have s1i : (mi : Int) < (d.row.length : Int) := by omega
          have s1j : (ni : Int) < (d.row.length : Int) := by omega
          clear s11
          by_cases hk6 : km = 6
          · rw [if_pos hk6] at hgo
            subst hk6
            have HR : ∀ q, Calls Tryz.prog 31 #[.pointer (some ⟨b, 0, none⟩), .int .i64 rm, .int .i64 rn] (World.drewN W1 q) fun e w' => e = .returned (.bool ok) ∧ GS (World.drewN W1 q) b G1 w' d' := fun q => (g1.out.quiet ((Ch.refl _ _).dn q)).SameRow hgo
            replace HR := hid HR
            replace hgo := hid hgo
            go_upto_region 22 with (fail)
            refine wp_region_split 24 3 (by kernel_rfl) rfl (by kernel_rfl) (by kernel_rfl) (by kernel_rfl) ?_
            simp only [List.take_succ_cons, List.take_zero]
            repeat (gi_big_quiet_step (fail))
            refine wpQuietIn_nil ?_
            intro _ hw'
            obtain ⟨nqr1, hw''⟩ := hw'
            subst hw''
            refine wpAnyIn_ready (rs := [24]) (by kernel_rfl) (by simp) (AllReadyIn.cons rfl (fun K hK => ?_) AllReadyIn.nil)
            go_simp
            refine ⟨rfl, callsIn_wide.2 ((HR.out _).mono ?_)⟩
            rintro e We ⟨rfl, Ge, ge, ce, me⟩
            dsimp only
            refine hK _ _ ?_
            clear hK K
            refine wpAnyIn_ready (rs := [25]) (by kernel_rfl) (by simp) (AllReadyIn.cons rfl (fun K hK => ?_) AllReadyIn.nil)
            go_simp
            refine hK _ _ ?_
            clear hK K
            refine wpAnyIn_ready (rs := [26]) (by kernel_rfl) (by simp) (AllReadyIn.cons rfl (fun K hK => ?_) AllReadyIn.nil)
            go_simp
            refine hK _ _ ?_
            clear hK K
            refine wpAnyIn_done (by kernel_rfl) ?_ _
            go_wp2
            go_ret
            exact ⟨rfl, GS.after (c1') (m1') (GS.after ((Ch.refl _ _).dn _) (fun _ h => .inl h) ⟨Ge, ge, ce, me⟩)⟩
          · rw [if_neg hk6] at hgo
            obtain ⟨rfl, rfl⟩ := Prod.mk.inj (Option.some.inj hgo)
            go_upto_region 22 with (fail)
            go_quiet (fail)
            go_wp2
            go_ret
            exact ⟨rfl, GS.after (c1') (m1') ((GS.refl g1.out).quiet ((Ch.refl _ _).dn _))⟩

theorem Same_any (b f : Nat) : ∀ k, SameOK b f k
  | 0 => fun _ h => by cases h
  | k + 1 => Same_step (Same_any b f k)
end Go.Proofs.YtficijneelpmcaaGreat
