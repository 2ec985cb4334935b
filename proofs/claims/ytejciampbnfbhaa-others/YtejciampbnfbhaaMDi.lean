import Derived.Test.YtejciampbnfbhaaMTy
set_option linter.unusedVariables false
set_option linter.unusedSimpArgs false
set_option maxRecDepth 100000
set_option maxHeartbeats 8000000
namespace Go.Proofs.Ytejciampbnfbhaa
open Go.RowKit
theorem ints_set (l : List Int) (i : Nat) (x : Int) : (ints l).set i (.int .i64 x) = ints (l.set i x) := by simp [ints, List.map_set]
theorem same_own {G : Gg} {i b : Nat} {ys : List Value} {k : Nat} (h : (G.setRow i (G.v i) ys).own b k) : G.own b k := by
 rcases h with h | ⟨j, hj, h⟩ | h | h
 ·exact .inl h
 ·by_cases e : j = i
  ·subst e; rw [setRow_v] at h; exact .inr (.inl ⟨j, hj, h⟩)
  ·rw [setRow_vo _ _ _ e] at h; exact .inr (.inl ⟨j, hj, h⟩)
 ·exact .inr (.inr (.inl h))
 ·exact .inr (.inr (.inr h))
theorem GD.Stands {w : World} {b : Nat} {G : Gg} {d d' : Dg.D} (h : GD w b G d) {v x : Int} {o : List (List UInt8)} {u : Value} (hs : Dg.stands d v o x = some d') (hu : SV w u o) (ha : ∀ k, u.ownBlock = some k → ¬ G.own b k) :
  Calls Try.prog 94 #[.pointer (some ⟨b, 0, none⟩), .int .i64 v, u, .int .i64 x] w fun e w' => e = .returned (.tuple #[]) ∧ GS w b G w' d' := by
 unfold Dg.stands at hs
 by_cases hc : 0 ≤ v ∧ v < d.ops.length ∧ v < d.next.length
 case neg => rw [if_neg hc] at hs; cases hs
 rw [if_pos hc] at hs
 obtain rfl := Option.some.inj hs
 obtain ⟨v0, v1, v2⟩ := hc
 obtain ⟨i, rfl⟩ : ∃ i : Nat, v = (i : Int) := ⟨v.toNat, by omega⟩
 have i1 : i < d.ops.length := by omega
 have i2 : i < d.next.length := by omega
 rw [Int.toNat_natCast]
 obtain ⟨ua, uc, rfl, _⟩ := id hu
 obtain ⟨o0, ho0⟩ : ∃ o0, d.ops[i]? = some o0 := ⟨d.ops[i], by simp⟩
 obtain ⟨g, cap, u0, e5, c5, f5, _, _, _⟩ := h.rowAt ho0
 have b5 := h.gm.cells.2.2.2.2.2.1
 rw [e5] at b5
 obtain ⟨s1, s2⟩ := h.gm.set (i := 5) (j := i) (by omega) (by rw [h.ol]; exact i1) (.slice ua o.length uc) e5
 obtain ⟨W, hW⟩ : ∃ W, w.setCell ⟨g, i, none⟩ (.slice ua o.length uc) = W := ⟨_, rfl⟩
 rw [hW] at s1 s2
 obtain ⟨x0, hx0⟩ : ∃ x0, d.next[i]? = some x0 := ⟨d.next[i], by simp⟩
 obtain ⟨ng, ncap, n1, n2, n3, n4⟩ := GD.intAt s1 (j := 6) (by omega) (l := d.next) (by rw [setRow_xo _ _ _ (by omega), h.x6]) hx0
 have b6 := s1.cells.2.2.2.2.2.2.1
 rw [n1] at b6
 have n1' := n1
 rw [setRow_vo _ _ _ (by omega)] at n1
 obtain ⟨t1, t2⟩ := s1.set (i := 6) (j := i) (by omega) (by rw [setRow_xo _ _ _ (by omega), h.x6, ints_len]; exact i2) (.int .i64 x) n1'
 replace h := hid h
 replace s1 := hid s1
 replace t1 := hid t1
 replace hu := hid hu
 go_enter Try.func94, Try.ntmps94
 go_upto_region 1 with (fail)
 clear hW c5 f5 b5
 go_wp2
 go_end0
 replace h := h.out
 replace t1 := t1.out
 refine ⟨rfl, _, ⟨t1, ?_, ?_, ?_, ?_, ?_, ?_, ?_, fun j o' hj => ?_, h.tv, h.rv⟩, s2.two t2 ?_, ?_⟩
 ·rw [setRow_xo _ _ _ (by omega), setRow_xo _ _ _ (by omega), h.x0]
 ·rw [setRow_xo _ _ _ (by omega), setRow_xo _ _ _ (by omega), h.x1]
 ·rw [setRow_xo _ _ _ (by omega), setRow_xo _ _ _ (by omega), h.x2]
 ·rw [setRow_xo _ _ _ (by omega), setRow_xo _ _ _ (by omega), h.x3]
 ·rw [setRow_xo _ _ _ (by omega), setRow_xo _ _ _ (by omega), h.x4]
 ·rw [setRow_x, setRow_xo _ _ _ (by omega), h.x6]; exact ints_set _ _ _
 ·rw [setRow_xo _ _ _ (by omega), setRow_x]; simp [h.ol]
 ·rw [setRow_xo _ _ _ (by omega), setRow_x]
  have hown : ∀ k, ((G.setRow 5 (G.v 5) ((G.xs 5).set i (.slice ua o.length uc))).setRow 6 ((G.setRow 5 (G.v 5) ((G.xs 5).set i (.slice ua o.length uc))).v 6) (((G.setRow 5 (G.v 5) ((G.xs 5).set i (.slice ua o.length uc))).xs 6).set i (.int .i64 x))).own b k → G.own b k := fun k hk => same_own (same_own hk)
  have hcw := s2.two t2 (fun k hk => .inl (same_own hk))
  by_cases e : j = i
  ·subst e
   obtain rfl : o = o' := by simpa [i1] using hj
   exact ⟨_, by rw [List.getElem?_set_self (by rw [h.ol]; exact i1)], hu.out.keep hcw ha, fun k hk ho => ha k hk (hown k ho)⟩
  ·obtain ⟨u', u1, u2, u3⟩ := h.ov j o' (by simpa [List.getElem?_set_ne (Ne.symm e)] using hj)
   exact ⟨u', by rw [List.getElem?_set_ne (Ne.symm e)]; exact u1, u2.keep hcw u3, fun k hk ho => u3 k hk (hown k ho)⟩
 ·exact fun k hk => .inl (same_own hk)
 ·exact fun k hk => .inl (same_own (same_own hk))
end Go.Proofs.Ytejciampbnfbhaa

namespace Go.Proofs.Ytejciampbnfbhaa
open Go.RowKit
theorem Fresh.apart {w w' : World} {v : Value} {l : List (List UInt8)} (h : Fresh w w' v l) {b : Nat} {G : Gg} (hg : GM w b G) : ∀ k, v.ownBlock = some k → ¬ G.own b k := fun k hk ho => by
 have := h.2.2 k hk
 have := hg.lt ho
 omega
theorem Fresh.from {w0 w w' : World} {v : Value} {l : List (List UInt8)} (h : Fresh w w' v l) (hc : Ch (fun _ => False) w0 w) : Fresh w0 w' v l := ⟨h.1, hc.trans h.2.1 (fun _ h => h.elim), fun k hk => Nat.le_trans hc.size (h.2.2 k hk)⟩
theorem GD.SameRow {w : World} {b : Nat} {G : Gg} {d d' : Dg.D} (h : GD w b G d) {f : Nat} {r s : Int} {ok : Bool} (hf : Dg.sameRow f d r s = some (ok, d')) :
  Calls Try.prog 90 #[.pointer (some ⟨b, 0, none⟩), .int .i64 r, .int .i64 s] w fun e w' => e = .returned (.bool ok) ∧ GS w b G w' d' := by
 unfold Dg.sameRow at hf
 obtain ⟨⟨p, v⟩, hp, hf1⟩ := Option.bind_eq_some_iff.1 hf
 obtain ⟨⟨q, y⟩, hq, hf2⟩ := Option.bind_eq_some_iff.1 hf1
 clear hf hf1
 have hf := hf2
 clear hf2
 simp only at hf
 by_cases hb : p.length < Dg.big ∧ q.length < Dg.big
 case neg => rw [if_neg hb] at hf; cases hf
 rw [if_pos hb] at hf
 obtain ⟨hpb, hqb⟩ := hb
 have HW1 := h.Whole hp
 have HW2 : ∀ W, Ch (fun _ => False) w W → Calls Try.prog 59 #[.pointer (some ⟨b, 0, none⟩), .int .i64 s] W fun e w' => ∃ u, e = .returned (.tuple #[u, .int .i64 y]) ∧ Fresh W w' u q := fun W hc => (h.quiet hc).Whole hq
 replace HW2 := hid HW2
 replace h := hid h
 replace hf := hid hf
 clear hp hq
 go_enter Try.func90, Try.ntmps90
 go_upto_region 5 with (first
  | (have _g := HW1; clear _g; go_at_call 59; refine HW1.mono ?_; clear HW1; rintro e w1 ⟨u1, rfl, F1⟩; have HW3 := HW2.out w1 F1.2.1; (obtain ⟨a1, c1, rfl, -⟩ := F1.sv); replace F1 := hid F1)
  | (have _g := HW3; clear _g; go_at_call 59; refine HW3.mono ?_; clear HW3; rintro e w2 ⟨u2, rfl, F2⟩; have HL1 := less_any w2 _ _ p q (F1.out.quiet F2.2.1).sv F2.sv hpb hqb; (obtain ⟨a2, c2, rfl, -⟩ := F2.sv); replace F2 := hid F2)
  | (have _g := HL1; clear _g; go_at_call 93; refine HL1.mono ?_; clear HL1; rintro e w3 ⟨u3, rfl, F3⟩; have HL2 := less_any w3 _ _ q p (F2.out.quiet F3.2.1).sv ((F1.out.quiet F2.out.2.1).quiet F3.2.1).sv hqb hpb; (obtain ⟨a3, c3, rfl, -⟩ := F3.sv); replace F3 := hid F3)
  | (have _g := HL2; clear _g; go_at_call 93; refine HL2.mono ?_; clear HL2; rintro e w4 ⟨u4, rfl, F4⟩; (obtain ⟨a4, c4, rfl, -⟩ := F4.sv); replace F4 := hid F4))
 have hc4 : Ch (fun _ => False) w w4 := ((F1.out.2.1.trans F2.out.2.1 (fun _ h => h.elim)).trans F3.out.2.1 (fun _ h => h.elim)).trans F4.out.2.1 (fun _ h => h.elim)
 have hc2 : Ch (fun _ => False) w w2 := F1.out.2.1.trans F2.out.2.1 (fun _ h => h.elim)
 have hD := (F3.out.quiet F4.out.2.1).from hc2
 have hE := F4.out.from (hc2.trans F3.out.2.1 (fun _ h => h.elim))
 have hG4 := hid (h.out.quiet hc4)
 have aD := hid (hD.apart h.out.gm)
 have aE := hid (hE.apart h.out.gm)
 have sD := hid hD.sv
 have sE := hid hE.sv
 have h0 : ∀ {w' : World} {d2 : Dg.D}, GS w4 b G w' d2 → GS w b G w' d2 := fun ⟨G', g1, g2, g3⟩ => ⟨G', g1, (hc4.mono (fun _ h => h.elim)).trans g2 (fun _ h => .inl h), fun k hk => (g3 k hk).imp id (fun e => Nat.le_trans hc4.size e)⟩
 replace h0 := @hid _ @h0
 clear F1 F2 F3 F4 hc4 hc2 hD hE h HW2
 generalize hDD : Un.less p q = dl at *
 generalize hEE : Un.less q p = el at *
 clear hDD hEE hpb hqb
 by_cases e1 : v = y
 ·subst e1
  replace hf := hf.out
  rw [if_pos rfl] at hf
  replace hf := hid hf
  by_cases z1 : dl.length = 0
  ·by_cases z2 : el.length = 0
   ·go_wp2
    go_ret
    obtain ⟨rfl, rfl⟩ := Prod.mk.inj (Option.some.inj hf.out); exact ⟨by simp [z1, z2], h0.out (GS.refl hG4.out)⟩
   ·go_wp2
    go_ret
    obtain ⟨rfl, rfl⟩ := Prod.mk.inj (Option.some.inj hf.out); exact ⟨by simp [z1, z2], h0.out (GS.refl hG4.out)⟩
  ·go_wp2
   go_ret
   obtain ⟨rfl, rfl⟩ := Prod.mk.inj (Option.some.inj hf.out); exact ⟨by simp [z1], h0.out (GS.refl hG4.out)⟩
 ·replace hf := hf.out
  rw [if_neg e1] at hf
  by_cases v0 : v = 0
  ·subst v0
   rw [if_pos rfl] at hf
   by_cases z2 : 0 < el.length
   ·rw [if_pos z2] at hf
    obtain ⟨rfl, rfl⟩ := Prod.mk.inj (Option.some.inj hf); have z2I : (0 : Int) < (el.length : Int) := by omega
    go_wp2
    go_ret
    exact ⟨rfl, h0.out (GS.refl hG4.out)⟩
   ·rw [if_neg z2] at hf
    obtain ⟨d2, hs, hd⟩ := Option.map_eq_some_iff.1 hf; obtain ⟨rfl, rfl⟩ := Prod.mk.inj hd; have HS := hG4.out.Stands hs sD.out aD.out; have z2I : ¬ (0 : Int) < (el.length : Int) := by omega
    have y0 : ¬ y = 0 := fun e => e1 e.symm; clear hf hs
    go_wp2_with (go_at_call 94; refine HS.mono ?_; clear HS; rintro e w5 ⟨rfl, g5⟩)
    go_ret
    exact ⟨rfl, h0.out g5⟩
  ·rw [if_neg v0] at hf
   by_cases y0 : y = 0
   ·subst y0
    rw [if_pos rfl] at hf
    by_cases z1 : 0 < dl.length
    ·rw [if_pos z1] at hf
     obtain ⟨rfl, rfl⟩ := Prod.mk.inj (Option.some.inj hf); have z1I : (0 : Int) < (dl.length : Int) := by omega
     go_wp2
     go_ret
     exact ⟨rfl, h0.out (GS.refl hG4.out)⟩
    ·rw [if_neg z1] at hf
     obtain ⟨d2, hs, hd⟩ := Option.map_eq_some_iff.1 hf; obtain ⟨rfl, rfl⟩ := Prod.mk.inj hd; have HS := hG4.out.Stands hs sE.out aE.out; have z1I : ¬ (0 : Int) < (dl.length : Int) := by omega
     clear hf hs
     go_wp2_with (go_at_call 94; refine HS.mono ?_; clear HS; rintro e w5 ⟨rfl, g5⟩)
     go_ret
     exact ⟨rfl, h0.out g5⟩
   ·rw [if_neg y0] at hf
    by_cases hsm : d.small
    case neg => rw [if_neg hsm] at hf; cases hf
    rw [if_pos hsm] at hf; obtain ⟨d2, hs, hf2⟩ := Option.bind_eq_some_iff.1 hf; obtain ⟨d3, hs2, hd⟩ := Option.map_eq_some_iff.1 hf2; obtain ⟨rfl, rfl⟩ := Prod.mk.inj hd; have HO := hG4.out.Open hsm; replace hs := hid hs; replace hs2 := hid hs2; clear hf hf2 hd hsm
    go_wp2_with (first
     | (have _g := HO; clear _g; go_at_call 50; refine HO.mono ?_; clear HO; rintro e w5 ⟨rfl, G5, g5, k5, m5⟩; have HS := g5.Stands hs.out (sE.out.keep k5 aE.out) (apart_more m5 sE.out aE.out); replace g5 := hid g5)
     | (have _g := HS; clear _g; go_at_call 94; refine HS.mono ?_; clear HS; rintro e w6 ⟨rfl, G6, g6, k6, m6⟩; have HS2 := g6.Stands hs2.out ((sD.out.keep k5 aD.out).keep k6 (apart_more m5 sD.out aD.out)) (apart_more m6 (sD.out.keep k5 aD.out) (apart_more m5 sD.out aD.out)); replace g6 := hid g6)
     | (have _g := HS2; clear _g; go_at_call 94; refine HS2.mono ?_; clear HS2; rintro e w7 ⟨rfl, g7⟩))
    go_ret
    exact ⟨rfl, h0.out (GS.after k5 m5 (GS.after k6 m6 g7))⟩
end Go.Proofs.Ytejciampbnfbhaa
