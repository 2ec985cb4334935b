import Derived.Test.YtejciampbnfbhaaMDl
import Derived.WideMake
set_option linter.unusedVariables false
set_option linter.unusedSimpArgs false
set_option maxRecDepth 100000
set_option maxHeartbeats 16000000
namespace Go.Proofs.Ytejciampbnfbhaa
open Go.RowKit
namespace Dg
def fitP (x : Int) : Prop := 0 ≤ x ∧ x ≤ 1000000
instance (x : Int) : Decidable (fitP x) := by unfold fitP; infer_instance
def rowLen (f : Nat) (d : D) (kd : Int) (n : Int) : Option Int := if kd = 6 then (at? d.row n).bind fun r => (whole f d r []).bind fun p => if p.1.length < big then some (p.1.length : Int) else none else some 0
def parts (f : Nat) : Nat → D → Int → List (Int × Int) → Option (Int × List (Int × Int))
 | 0, _, _, _ => none
 | k + 1, d, n, s => (find f d.link n).bind fun n =>
  if 0 < (s.lookup n).getD 0 then some ((s.lookup n).getD 0, s) else
  (at? d.a n).bind fun a => (at? d.b n).bind fun b => (at? d.kind n).bind fun kd =>
  (if 0 ≤ a then parts f k d a s else some (0, s)).bind fun p =>
  (if 0 ≤ b then parts f k d b p.2 else some (0, p.2)).bind fun q =>
  (rowLen f d kd n).bind fun x => if fitP p.1 ∧ fitP q.1 then some (min (1 + p.1 + q.1 + x) 1000000, mput n (min (1 + p.1 + q.1 + x) 1000000) q.2) else none
end Dg
def PartsOK (b s f k : Nat) : Prop := ∀ {w : World} {G : Gg} {d : Dg.D} {n : Int} {l l' : List (Int × Int)} {r : Int}, GD w b G d → G.out b s → MI w s l → Dg.parts f k d n l = some (r, l') →
 Calls Try.prog 80 #[.pointer (some ⟨b, 0, none⟩), .int .i64 n, .map (some s)] w fun e w' => e = .returned (.int .i64 r) ∧ MI w' s l' ∧ Ch (fun j => j = s) w w'
theorem Parts_step {b s f k : Nat} (ih : PartsOK b s f k) : PartsOK b s f (k + 1) := by
 intro w G d n l l' r h ho hs hr
 unfold Dg.parts at hr
 obtain ⟨n', fn, hr1⟩ := Option.bind_eq_some_iff.1 hr
 clear hr
 have H1 := h.Find fn
 obtain ⟨ni, rfl, hnl⟩ := find_at fn
 clear fn
 have n0 : (0 : Int) ≤ ni := by omega
 have hlk := run_look hs (ni : Int)
 replace ih := @hid _ @ih
 replace h := hid h
 go_enter Try.func80, Try.ntmps80
 go_upto_region 2 with (go_at_call 57; refine H1.mono ?_; clear H1; rintro e w1 ⟨rfl, hw1⟩; obtain rfl := hw1.symm)
 by_cases hx : 0 < (l.lookup (ni : Int)).getD 0
 ·rw [if_pos hx] at hr1
  obtain ⟨rfl, rfl⟩ := Prod.mk.inj (Option.some.inj hr1)
  replace hs := hid hs
  go_wp2
  go_ret
  exact ⟨by first | rfl | simp | (congr 2), hs.out, Ch.refl _ _⟩
 ·rw [if_neg hx] at hr1
  obtain ⟨a, ha, hr2⟩ := Option.bind_eq_some_iff.1 hr1
  obtain ⟨c, hc, hr3⟩ := Option.bind_eq_some_iff.1 hr2
  obtain ⟨kd, hkd, hr4⟩ := Option.bind_eq_some_iff.1 hr3
  obtain ⟨⟨p, l1⟩, hp, hr5⟩ := Option.bind_eq_some_iff.1 hr4
  obtain ⟨⟨q, l2⟩, hq, hr6⟩ := Option.bind_eq_some_iff.1 hr5
  obtain ⟨x, hxr, hr7⟩ := Option.bind_eq_some_iff.1 hr6
  dsimp only at hr7 hq
  split at hr7
  case isFalse => cases hr7
  rename_i hpq
  obtain ⟨⟨p0, p1⟩, q0, q1⟩ := hpq
  obtain ⟨hm0, hl0⟩ := Prod.mk.inj (Option.some.inj hr7)
  generalize (l.lookup (ni : Int)).getD 0 = lk0 at *
  clear hr1 hr2 hr3 hr4 hr5 hr6 hr7
  replace hm0 := hid hm0
  replace hl0 := hid hl0
  replace hp := hid hp
  replace hq := hid hq
  replace hxr := hid hxr
  replace hs := hid hs
  have c0 : Ch (fun j => j = s) w w := Ch.refl _ _
  go_upto_region 5 with (fail)
  clear hlk hx
  obtain ⟨xg, xc, x1, x2, _, x4⟩ := GD.intAt h.out.gm (j := 1) (by omega) h.out.x1 (at_nat ha)
  have xb := h.out.gm.cells.2.1
  rw [x1] at xb
  have xi : (ni : Int) < (d.a.length : Int) := by omega
  clear x1
  by_cases ha0 : 0 ≤ a
  ·have hp2 := hp.out
   rw [if_pos ha0] at hp2; have HR := ih.out h.out ho hs.out hp2; clear hp2 hp
   go_upto_region 7 with (go_at_call 80; refine HR.mono ?_; clear HR; rintro e w1 ⟨rfl, s1, c1⟩; have g1 := hid (h.out.aside ho c1); replace s1 := hid s1; replace c1 := c0.same_two c1)
   clear xb x2 x4; obtain ⟨yg, yc, y1, y2, _, y4⟩ := GD.intAt g1.out.gm (j := 2) (by omega) g1.out.x2 (at_nat hc); have yb := g1.out.gm.cells.2.2.1; rw [y1] at yb; have yi : (ni : Int) < (d.b.length : Int) := by omega
   clear y1
   by_cases hc0 : 0 ≤ c
   ·have hp2 := hq.out
    rw [if_pos hc0] at hp2; have HR := ih.out g1.out ho s1.out hp2; clear hp2 hq
    go_upto_region 9 with (go_at_call 80; refine HR.mono ?_; clear HR; rintro e w2 ⟨rfl, s2, c2⟩; have g2 := hid (g1.out.aside ho c2); replace s2 := hid s2; replace c2 := c1.same_two c2)
    clear yb y2 y4; obtain ⟨zg, zc, z1, z2, _, z4⟩ := GD.intAt g2.out.gm (j := 0) (by omega) g2.out.x0 (at_nat hkd); have zb := g2.out.gm.cells.1; rw [z1] at zb; have zi : (ni : Int) < (d.kind.length : Int) := by omega
    clear z1
    by_cases hk6 : kd = 6
    ·have hp2 := hxr.out
     unfold Dg.rowLen at hp2; rw [if_pos hk6] at hp2; obtain ⟨rr, hrr, hp3⟩ := Option.bind_eq_some_iff.1 hp2; obtain ⟨⟨lw, vw⟩, hw, hp4⟩ := Option.bind_eq_some_iff.1 hp3
     dsimp only at hp4
     split at hp4
     case isFalse => cases hp4
     rename_i hlw; have hp5 := Option.some.inj hp4; have HW := g2.out.Whole hw; clear hp2 hp3 hp4 hw; subst hk6; obtain ⟨ug, uc, u1, u2, _, u4⟩ := GD.intAt g2.out.gm (j := 3) (by omega) g2.out.x3 (at_nat hrr); have ub := g2.out.gm.cells.2.2.2.1; rw [u1] at ub; have ui : (ni : Int) < (d.row.length : Int) := by omega
     clear u1
     go_upto_region 11 with (go_at_call 59; refine HW.mono ?_; clear HW; rintro e w3 ⟨u, rfl, hF⟩; have s3 := hid (MI.keep s2.out (hF.2.1.same s (MI.lt s2.out) (fun h => h))); have c3 := c2.trans hF.2.1 (fun _ h => h.elim); obtain ⟨ua, uc, rfl, _⟩ := Fresh.sv hF; clear hF)
     clear ub u2 u4 zb z2 z4; have hb1 : (lw.length : Int) < 1000000000 := by unfold Dg.big at hlw; omega
     subst hp5
     go_upto_region 12 with (fail)
     by_cases hm : (1000000 : Int) < 1 + p + q + (lw.length : Int)
     ·first
      | (exfalso; omega)
      | (obtain ⟨w4, hu4, s4, c4⟩ := run_upd s3.out (ni : Int) 1000000
         replace s4 := hid s4
         go_wp2
         go_ret
         have hm1 := hm0.out; have hl1 := hl0.out; rw [hm1] at hl1; obtain rfl : r = 1000000 := by omega
         subst hl1
         exact ⟨rfl, s4.out, c3.same_two c4⟩)
     ·obtain ⟨w4, hu4, s4, c4⟩ := run_upd s3.out (ni : Int) (1 + p + q + (lw.length : Int))
      replace s4 := hid s4
      go_wp2
      go_ret
      have hm1 := hm0.out; have hl1 := hl0.out; rw [hm1] at hl1; obtain rfl : r = 1 + p + q + (lw.length : Int) := by omega
      subst hl1; exact ⟨rfl, s4.out, c3.same_two c4⟩
    ·have hp2 := hxr.out
     unfold Dg.rowLen at hp2; rw [if_neg hk6] at hp2; obtain rfl := Option.some.inj hp2; clear hp2
     go_upto_region 12 with (fail)
     clear zb z2 z4
     by_cases hm : (1000000 : Int) < 1 + p + q
     ·first
      | (exfalso; omega)
      | (obtain ⟨w4, hu4, s4, c4⟩ := run_upd s2.out (ni : Int) 1000000
         replace s4 := hid s4
         go_wp2
         go_ret
         have hm1 := hm0.out; have hl1 := hl0.out; rw [hm1] at hl1; obtain rfl : r = 1000000 := by omega
         subst hl1
         exact ⟨rfl, s4.out, c2.same_two c4⟩)
     ·obtain ⟨w4, hu4, s4, c4⟩ := run_upd s2.out (ni : Int) (1 + p + q)
      replace s4 := hid s4
      go_wp2
      go_ret
      have hm1 := hm0.out; have hl1 := hl0.out; rw [hm1] at hl1; obtain rfl : r = 1 + p + q := by omega
      subst hl1; exact ⟨rfl, s4.out, c2.same_two c4⟩
   ·have hp2 := hq.out
    rw [if_neg hc0] at hp2; obtain ⟨rfl, rfl⟩ := Prod.mk.inj (Option.some.inj hp2); clear hp2 hq
    go_upto_region 9 with (fail)
    clear yb y2 y4; obtain ⟨zg, zc, z1, z2, _, z4⟩ := GD.intAt g1.out.gm (j := 0) (by omega) g1.out.x0 (at_nat hkd); have zb := g1.out.gm.cells.1; rw [z1] at zb; have zi : (ni : Int) < (d.kind.length : Int) := by omega
    clear z1
    by_cases hk6 : kd = 6
    ·have hp2 := hxr.out
     unfold Dg.rowLen at hp2; rw [if_pos hk6] at hp2; obtain ⟨rr, hrr, hp3⟩ := Option.bind_eq_some_iff.1 hp2; obtain ⟨⟨lw, vw⟩, hw, hp4⟩ := Option.bind_eq_some_iff.1 hp3
     dsimp only at hp4
     split at hp4
     case isFalse => cases hp4
     rename_i hlw; have hp5 := Option.some.inj hp4; have HW := g1.out.Whole hw; clear hp2 hp3 hp4 hw; subst hk6; obtain ⟨ug, uc, u1, u2, _, u4⟩ := GD.intAt g1.out.gm (j := 3) (by omega) g1.out.x3 (at_nat hrr); have ub := g1.out.gm.cells.2.2.2.1; rw [u1] at ub; have ui : (ni : Int) < (d.row.length : Int) := by omega
     clear u1
     go_upto_region 11 with (go_at_call 59; refine HW.mono ?_; clear HW; rintro e w3 ⟨u, rfl, hF⟩; have s3 := hid (MI.keep s1.out (hF.2.1.same s (MI.lt s1.out) (fun h => h))); have c3 := c1.trans hF.2.1 (fun _ h => h.elim); obtain ⟨ua, uc, rfl, _⟩ := Fresh.sv hF; clear hF)
     clear ub u2 u4 zb z2 z4; have hb1 : (lw.length : Int) < 1000000000 := by unfold Dg.big at hlw; omega
     subst hp5
     go_upto_region 12 with (fail)
     by_cases hm : (1000000 : Int) < 1 + p + (lw.length : Int)
     ·first
      | (exfalso; omega)
      | (obtain ⟨w4, hu4, s4, c4⟩ := run_upd s3.out (ni : Int) 1000000
         replace s4 := hid s4
         go_wp2
         go_ret
         have hm1 := hm0.out; have hl1 := hl0.out; rw [hm1] at hl1; obtain rfl : r = 1000000 := by omega
         subst hl1
         exact ⟨rfl, s4.out, c3.same_two c4⟩)
     ·obtain ⟨w4, hu4, s4, c4⟩ := run_upd s3.out (ni : Int) (1 + p + (lw.length : Int))
      replace s4 := hid s4
      go_wp2
      go_ret
      have hm1 := hm0.out; have hl1 := hl0.out; rw [hm1] at hl1; obtain rfl : r = 1 + p + (lw.length : Int) := by omega
      subst hl1; exact ⟨rfl, s4.out, c3.same_two c4⟩
    ·have hp2 := hxr.out
     unfold Dg.rowLen at hp2; rw [if_neg hk6] at hp2; obtain rfl := Option.some.inj hp2; clear hp2
     go_upto_region 12 with (fail)
     clear zb z2 z4
     by_cases hm : (1000000 : Int) < 1 + p
     ·first
      | (exfalso; omega)
      | (obtain ⟨w4, hu4, s4, c4⟩ := run_upd s1.out (ni : Int) 1000000
         replace s4 := hid s4
         go_wp2
         go_ret
         have hm1 := hm0.out; have hl1 := hl0.out; rw [hm1] at hl1; obtain rfl : r = 1000000 := by omega
         subst hl1
         exact ⟨rfl, s4.out, c1.same_two c4⟩)
     ·obtain ⟨w4, hu4, s4, c4⟩ := run_upd s1.out (ni : Int) (1 + p)
      replace s4 := hid s4
      go_wp2
      go_ret
      have hm1 := hm0.out; have hl1 := hl0.out; rw [hm1] at hl1; obtain rfl : r = 1 + p := by omega
      subst hl1; exact ⟨rfl, s4.out, c1.same_two c4⟩
  ·have hp2 := hp.out
   rw [if_neg ha0] at hp2; obtain ⟨rfl, rfl⟩ := Prod.mk.inj (Option.some.inj hp2); clear hp2 hp
   go_upto_region 7 with (fail)
   clear xb x2 x4; obtain ⟨yg, yc, y1, y2, _, y4⟩ := GD.intAt h.out.gm (j := 2) (by omega) h.out.x2 (at_nat hc); have yb := h.out.gm.cells.2.2.1; rw [y1] at yb; have yi : (ni : Int) < (d.b.length : Int) := by omega
   clear y1
   by_cases hc0 : 0 ≤ c
   ·have hp2 := hq.out
    rw [if_pos hc0] at hp2; have HR := ih.out h.out ho hs.out hp2; clear hp2 hq
    go_upto_region 9 with (go_at_call 80; refine HR.mono ?_; clear HR; rintro e w2 ⟨rfl, s2, c2⟩; have g2 := hid (h.out.aside ho c2); replace s2 := hid s2; replace c2 := c0.same_two c2)
    clear yb y2 y4; obtain ⟨zg, zc, z1, z2, _, z4⟩ := GD.intAt g2.out.gm (j := 0) (by omega) g2.out.x0 (at_nat hkd); have zb := g2.out.gm.cells.1; rw [z1] at zb; have zi : (ni : Int) < (d.kind.length : Int) := by omega
    clear z1
    by_cases hk6 : kd = 6
    ·have hp2 := hxr.out
     unfold Dg.rowLen at hp2; rw [if_pos hk6] at hp2; obtain ⟨rr, hrr, hp3⟩ := Option.bind_eq_some_iff.1 hp2; obtain ⟨⟨lw, vw⟩, hw, hp4⟩ := Option.bind_eq_some_iff.1 hp3
     dsimp only at hp4
     split at hp4
     case isFalse => cases hp4
     rename_i hlw; have hp5 := Option.some.inj hp4; have HW := g2.out.Whole hw; clear hp2 hp3 hp4 hw; subst hk6; obtain ⟨ug, uc, u1, u2, _, u4⟩ := GD.intAt g2.out.gm (j := 3) (by omega) g2.out.x3 (at_nat hrr); have ub := g2.out.gm.cells.2.2.2.1; rw [u1] at ub; have ui : (ni : Int) < (d.row.length : Int) := by omega
     clear u1
     go_upto_region 11 with (go_at_call 59; refine HW.mono ?_; clear HW; rintro e w3 ⟨u, rfl, hF⟩; have s3 := hid (MI.keep s2.out (hF.2.1.same s (MI.lt s2.out) (fun h => h))); have c3 := c2.trans hF.2.1 (fun _ h => h.elim); obtain ⟨ua, uc, rfl, _⟩ := Fresh.sv hF; clear hF)
     clear ub u2 u4 zb z2 z4; have hb1 : (lw.length : Int) < 1000000000 := by unfold Dg.big at hlw; omega
     subst hp5
     go_upto_region 12 with (fail)
     by_cases hm : (1000000 : Int) < 1 + q + (lw.length : Int)
     ·first
      | (exfalso; omega)
      | (obtain ⟨w4, hu4, s4, c4⟩ := run_upd s3.out (ni : Int) 1000000
         replace s4 := hid s4
         go_wp2
         go_ret
         have hm1 := hm0.out; have hl1 := hl0.out; rw [hm1] at hl1; obtain rfl : r = 1000000 := by omega
         subst hl1
         exact ⟨rfl, s4.out, c3.same_two c4⟩)
     ·obtain ⟨w4, hu4, s4, c4⟩ := run_upd s3.out (ni : Int) (1 + q + (lw.length : Int))
      replace s4 := hid s4
      go_wp2
      go_ret
      have hm1 := hm0.out; have hl1 := hl0.out; rw [hm1] at hl1; obtain rfl : r = 1 + q + (lw.length : Int) := by omega
      subst hl1; exact ⟨rfl, s4.out, c3.same_two c4⟩
    ·have hp2 := hxr.out
     unfold Dg.rowLen at hp2; rw [if_neg hk6] at hp2; obtain rfl := Option.some.inj hp2; clear hp2
     go_upto_region 12 with (fail)
     clear zb z2 z4
     by_cases hm : (1000000 : Int) < 1 + q
     ·first
      | (exfalso; omega)
      | (obtain ⟨w4, hu4, s4, c4⟩ := run_upd s2.out (ni : Int) 1000000
         replace s4 := hid s4
         go_wp2
         go_ret
         have hm1 := hm0.out; have hl1 := hl0.out; rw [hm1] at hl1; obtain rfl : r = 1000000 := by omega
         subst hl1
         exact ⟨rfl, s4.out, c2.same_two c4⟩)
     ·obtain ⟨w4, hu4, s4, c4⟩ := run_upd s2.out (ni : Int) (1 + q)
      replace s4 := hid s4
      go_wp2
      go_ret
      have hm1 := hm0.out; have hl1 := hl0.out; rw [hm1] at hl1; obtain rfl : r = 1 + q := by omega
      subst hl1; exact ⟨rfl, s4.out, c2.same_two c4⟩
   ·have hp2 := hq.out
    rw [if_neg hc0] at hp2; obtain ⟨rfl, rfl⟩ := Prod.mk.inj (Option.some.inj hp2); clear hp2 hq
    go_upto_region 9 with (fail)
    clear yb y2 y4; obtain ⟨zg, zc, z1, z2, _, z4⟩ := GD.intAt h.out.gm (j := 0) (by omega) h.out.x0 (at_nat hkd); have zb := h.out.gm.cells.1; rw [z1] at zb; have zi : (ni : Int) < (d.kind.length : Int) := by omega
    clear z1
    by_cases hk6 : kd = 6
    ·have hp2 := hxr.out
     unfold Dg.rowLen at hp2; rw [if_pos hk6] at hp2; obtain ⟨rr, hrr, hp3⟩ := Option.bind_eq_some_iff.1 hp2; obtain ⟨⟨lw, vw⟩, hw, hp4⟩ := Option.bind_eq_some_iff.1 hp3
     dsimp only at hp4
     split at hp4
     case isFalse => cases hp4
     rename_i hlw; have hp5 := Option.some.inj hp4; have HW := h.out.Whole hw; clear hp2 hp3 hp4 hw; subst hk6; obtain ⟨ug, uc, u1, u2, _, u4⟩ := GD.intAt h.out.gm (j := 3) (by omega) h.out.x3 (at_nat hrr); have ub := h.out.gm.cells.2.2.2.1; rw [u1] at ub; have ui : (ni : Int) < (d.row.length : Int) := by omega
     clear u1
     go_upto_region 11 with (go_at_call 59; refine HW.mono ?_; clear HW; rintro e w3 ⟨u, rfl, hF⟩; have s3 := hid (MI.keep hs.out (hF.2.1.same s (MI.lt hs.out) (fun h => h))); have c3 := c0.trans hF.2.1 (fun _ h => h.elim); obtain ⟨ua, uc, rfl, _⟩ := Fresh.sv hF; clear hF)
     clear ub u2 u4 zb z2 z4; have hb1 : (lw.length : Int) < 1000000000 := by unfold Dg.big at hlw; omega
     subst hp5
     go_upto_region 12 with (fail)
     by_cases hm : (1000000 : Int) < 1 + (lw.length : Int)
     ·first
      | (exfalso; omega)
      | (obtain ⟨w4, hu4, s4, c4⟩ := run_upd s3.out (ni : Int) 1000000
         replace s4 := hid s4
         go_wp2
         go_ret
         have hm1 := hm0.out; have hl1 := hl0.out; rw [hm1] at hl1; obtain rfl : r = 1000000 := by omega
         subst hl1
         exact ⟨rfl, s4.out, c3.same_two c4⟩)
     ·obtain ⟨w4, hu4, s4, c4⟩ := run_upd s3.out (ni : Int) (1 + (lw.length : Int))
      replace s4 := hid s4
      go_wp2
      go_ret
      have hm1 := hm0.out; have hl1 := hl0.out; rw [hm1] at hl1; obtain rfl : r = 1 + (lw.length : Int) := by omega
      subst hl1; exact ⟨rfl, s4.out, c3.same_two c4⟩
    ·have hp2 := hxr.out
     unfold Dg.rowLen at hp2; rw [if_neg hk6] at hp2; obtain rfl := Option.some.inj hp2; clear hp2
     go_upto_region 12 with (fail)
     clear zb z2 z4
     by_cases hm : (1000000 : Int) < 1
     ·first
      | (exfalso; omega)
      | (obtain ⟨w4, hu4, s4, c4⟩ := run_upd hs.out (ni : Int) 1000000
         replace s4 := hid s4
         go_wp2
         go_ret
         have hm1 := hm0.out; have hl1 := hl0.out; rw [hm1] at hl1; obtain rfl : r = 1000000 := by omega
         subst hl1
         exact ⟨rfl, s4.out, c0.same_two c4⟩)
     ·obtain ⟨w4, hu4, s4, c4⟩ := run_upd hs.out (ni : Int) (1)
      replace s4 := hid s4
      go_wp2
      go_ret
      have hm1 := hm0.out; have hl1 := hl0.out; rw [hm1] at hl1; obtain rfl : r = 1 := by omega
      subst hl1; exact ⟨rfl, s4.out, c0.same_two c4⟩
theorem Parts_any (b s f : Nat) : ∀ k, PartsOK b s f k
 | 0 => fun _ _ _ h => by cases h
 | k + 1 => Parts_step (Parts_any b s f k)
end Go.Proofs.Ytejciampbnfbhaa

namespace Go.Proofs.Ytejciampbnfbhaa
open Go.RowKit
namespace Dg
def number (m : List (Int × Int)) (n : Int) : Int × List (Int × Int) := match m.lookup n with
 | some k => (k, m)
 | none => ((m.length : Int) + 1, mput n ((m.length : Int) + 1) m)
end Dg
theorem run_lenM {w : World} {mB : Nat} {l : List (Int × Int)} (h : MI w mB l) (ty : TypeId) : (Builtin.len_ #[77] ty #[.map (some mB)]).run Try.prog w = .ok (.int .i64 (l.length : Int)) w := by
 obtain ⟨es, clock, hb, he⟩ := h
 have e : es.size = l.length := by
  have := congrArg List.length he
  simpa using this
 simp [Builtin.len_, run_underlying Try.undII, MapKept.run_getObj_map hb, goInt, Result.andThen, e]
theorem MI.new (w : World) : MI (w.alloc (.map #[] 0)) w.heap.size [] := ⟨#[], 0, World.alloc_heap_new w _, rfl⟩
theorem number_any (w : World) (mB : Nat) (l : List (Int × Int)) (h : MI w mB l) (hl : l.length < 1000000000) (n : Int) :
  Calls Try.prog 58 #[.map (some mB), .int .i64 n] w fun e w' => e = .returned (.int .i64 (Dg.number l n).1) ∧ MI w' mB (Dg.number l n).2 ∧ Ch (fun j => j = mB) w w' := by
 have hlk := run_lookOk h n
 have hlen := run_lenM h 3
 unfold Dg.number
 cases hx : l.lookup n with
 | some k =>
  rw [hx] at hlk
  simp only [Option.getD_some, Option.isSome_some] at hlk
  dsimp only
  replace hx := hid hx
  replace h := hid h
  clear hlen
  go_enter Try.func58, Try.ntmps58
  go_wp2
  go_ret
  exact ⟨rfl, h.out, Ch.refl _ _⟩
 | none =>
  rw [hx] at hlk
  simp only [Option.getD_none, Option.isSome_none] at hlk
  obtain ⟨w1, hu, s1, c1⟩ := run_upd h n ((l.length : Int) + 1)
  dsimp only
  have hb : (l.length : Int) < 1000000000 := by omega
  replace hx := hid hx
  replace h := hid h
  replace s1 := hid s1
  go_enter Try.func58, Try.ntmps58
  go_wp2
  go_ret
  exact ⟨rfl, s1.out, c1⟩
theorem new_out {w : World} {b : Nat} {G : Gg} {d : Dg.D} (h : GD w b G d) : G.out b w.heap.size := by
 refine ⟨fun ho => Nat.lt_irrefl _ (h.gm.lt ho), fun i u hu e => ?_⟩
 have hi := (List.getElem?_eq_some_iff.1 hu).1
 have : i < d.ops.length := by rw [← h.ol]; exact hi
 obtain ⟨u', h1, h2, _⟩ := h.ov i d.ops[i] (List.getElem?_eq_getElem this)
 rw [hu] at h1
 obtain rfl := Option.some.inj h1
 obtain ⟨a, c, rfl, h3⟩ := h2
 rcases h3 with ⟨rfl, _⟩ | ⟨g, k, rfl, _, hg, _⟩
 ·cases e
 ·have : g = w.heap.size := Option.some.inj e
  have := hg.lt
  omega
theorem GD.Round {w : World} {b : Nat} {G : Gg} {d : Dg.D} (h : GD w b G d) {f k : Nat} {n : Int} {r : Bool} {l' : List (Int × Int)} (hf : Dg.round f k d n [] = some (r, l')) :
  Calls Try.prog 79 #[.pointer (some ⟨b, 0, none⟩), .int .i64 n] w fun e w' => e = .returned (.bool r) ∧ Ch (fun _ => False) w w' := by
 have H := Round_any b w.heap.size f k (h.quiet (al_ch w (.map #[] 0))) (new_out h) (MI.new w) hf
 have hm := run_makeMap_plain (P := Try.prog) (w := w) 77
 replace h := hid h
 clear hf
 go_enter Try.func79, Try.ntmps79
 go_wp2_with (go_at_call 91; refine H.mono ?_; clear H; rintro e w2 ⟨rfl, s2, c2⟩)
 go_ret
 exact ⟨rfl, (al_ch w (.map #[] 0)).trans (c2.mono (fun k hk => hk)) (fun k hk => .inr (by omega))⟩
theorem GD.Parts {w : World} {b : Nat} {G : Gg} {d : Dg.D} (h : GD w b G d) {f k : Nat} {n r : Int} {l' : List (Int × Int)} (hf : Dg.parts f k d n [] = some (r, l')) :
  Calls Try.prog 54 #[.pointer (some ⟨b, 0, none⟩), .int .i64 n] w fun e w' => e = .returned (.int .i64 r) ∧ Ch (fun _ => False) w w' := by
 have H := Parts_any b w.heap.size f k (h.quiet (al_ch w (.map #[] 0))) (new_out h) (MI.new w) hf
 have hm := run_makeMap_plain (P := Try.prog) (w := w) 77
 replace h := hid h
 clear hf
 go_enter Try.func54, Try.ntmps54
 go_wp2_with (go_at_call 80; refine H.mono ?_; clear H; rintro e w2 ⟨rfl, s2, c2⟩)
 go_ret
 exact ⟨rfl, (al_ch w (.map #[] 0)).trans (c2.mono (fun k hk => hk)) (fun k hk => .inr (by omega))⟩
theorem Fresh_any (w : World) : Calls Try.prog 33 #[] w fun e w' => ∃ t r, e = .returned (.agg #[.map (some t), .map (some r)]) ∧ MI w' t [] ∧ MI w' r [] ∧ t ≠ r ∧ w.heap.size ≤ t ∧ w.heap.size ≤ r ∧ Ch (fun _ => False) w w' := by
 have hm := fun w' : World => run_makeMap_plain (P := Try.prog) (w := w') 77
 go_enter Try.func33, Try.ntmps33
 go_wp2
 refine bodyPost_ret (v := .agg #[.map (some (w.heap.size + 1)), .map (some (w.heap.size + 1 + 1))]) (by simp [results, Try.results33, go_sem]) rfl ⟨_, _, rfl, ?_, ?_, by omega, by omega, by omega, ?_⟩
 ·have h1 := MI.new (w.alloc (.cells #[.map (some (w.heap.size + 1)), .map (some (w.heap.size + 1 + 1))] 79))
  have h2 := h1.keep (w' := ((w.alloc (.cells #[.map (some (w.heap.size + 1)), .map (some (w.heap.size + 1 + 1))] 79)).alloc (.map #[] 0)).alloc (.map #[] 0)) (Below.heap_alloc _ _ _ h1.lt)
  simpa using h2
 ·have h1 := MI.new ((w.alloc (.cells #[.map (some (w.heap.size + 1)), .map (some (w.heap.size + 1 + 1))] 79)).alloc (.map #[] 0))
  simpa using h1
 ·exact ((al_ch w _).al _).al _
def Dg.empty : Dg.D := ⟨[], [], [], [], [], [[]], [0], [], []⟩
theorem own_one {w : World} {g : Nat} {v : Value} {e : TypeId} (h : w.heap[g]? = some (.cells #[v] e (0, 0))) : w.ownsRow 0 e 1 (.slice (some ⟨g, 0, none⟩) 1 1) [v].length [v] :=
 ⟨rfl, .inr ⟨g, 1, #[v], rfl, Nat.zero_le _, h, Nat.le_refl _, by decide, rfl, rfl⟩⟩
def newG (n : Nat) : Gg := ⟨fun i => if i = 5 then .slice (some ⟨n, 0, none⟩) 1 1 else if i = 6 then .slice (some ⟨n + 1, 0, none⟩) 1 1 else .slice none 0 0,
 fun i => if i = 5 then [.slice none 0 0] else if i = 6 then [.int .i64 0] else [], n + 1 + 1, n + 1 + 1 + 1, [], []⟩
theorem newG_own {n i k : Nat} (h : ((newG n).v i).ownBlock = some k) : (i = 5 ∧ k = n) ∨ (i = 6 ∧ k = n + 1) := by
 unfold newG at h
 dsimp only at h
 split at h
 ·exact .inl ⟨by assumption, (Option.some.inj h).symm⟩
 ·split at h
  ·exact .inr ⟨by assumption, (Option.some.inj h).symm⟩
  ·cases h
theorem newG_gm {w : World} {n : Nat} (h0 : w.heap[n]? = some (.cells #[.slice none 0 0] 46 (0, 0))) (h1 : w.heap[n + 1]? = some (.cells #[.int .i64 0] 3 (0, 0))) (h2 : w.heap[n + 1 + 1]? = some (.map #[] 0)) (h3 : w.heap[n + 1 + 1 + 1]? = some (.map #[] 0))
  (h4 : w.heap[n + 1 + 1 + 1 + 1]? = some (.cells #[.slice none 0 0, .slice none 0 0, .slice none 0 0, .slice none 0 0, .slice none 0 0, .slice (some ⟨n, 0, none⟩) 1 1, .slice (some ⟨n + 1, 0, none⟩) 1 1, .map (some (n + 1 + 1)), .map (some (n + 1 + 1 + 1))] 92 (0, 0))) : GD w (n + 1 + 1 + 1 + 1) (newG n) Dg.empty where
 gm := by
  refine ⟨h4, fun i hi => ?_, ⟨_, _, h2, rfl⟩, ⟨_, _, h3, rfl⟩, fun i j k _ _ h h' => ?_, fun i hi => ⟨fun e => ?_, fun e => ?_, fun e => ?_⟩, by unfold newG; dsimp only; omega⟩
  ·have : i = 0 ∨ i = 1 ∨ i = 2 ∨ i = 3 ∨ i = 4 ∨ i = 5 ∨ i = 6 := by omega
   rcases this with rfl | rfl | rfl | rfl | rfl | rfl | rfl
   ·exact World.ownsRow_nil _ _ _ _
   ·exact World.ownsRow_nil _ _ _ _
   ·exact World.ownsRow_nil _ _ _ _
   ·exact World.ownsRow_nil _ _ _ _
   ·exact World.ownsRow_nil _ _ _ _
   ·exact own_one h0
   ·exact own_one h1
  ·have a := newG_own h
   have b := newG_own h'; omega
  ·have a := newG_own e; omega
  ·have a := newG_own e; unfold newG at a; dsimp only at a; omega
  ·have a := newG_own e; unfold newG at a; dsimp only at a; omega
 x0 := rfl
 x1 := rfl
 x2 := rfl
 x3 := rfl
 x4 := rfl
 x6 := rfl
 ol := rfl
 ov i o ho := by
  have hi : i = 0 := by
   have := (List.getElem?_eq_some_iff.1 ho).1
   simp [Dg.empty] at this
   exact this
  subst hi
  have : o = [] := by simpa [Dg.empty] using ho.symm
  subst this
  exact ⟨.slice none 0 0, rfl, SV.nil w, fun k hk => by cases hk⟩
 tv := rfl
 rv := rfl
theorem New_any (w : World) : Calls Try.prog 24 #[] w fun e w' => ∃ b G, e = .returned (.pointer (some ⟨b, 0, none⟩)) ∧ GD w' b G Dg.empty ∧ (∀ k, G.own b k → w.heap.size ≤ k) ∧ Ch (fun _ => False) w w' := by
 have hm := fun w' : World => run_makeMap_plain (P := Try.prog) (w := w') 77
 go_enter Try.func24, Try.ntmps24
 go_wp2
 go_ret
 refine ⟨_, newG w.heap.size, rfl, newG_gm ?_ ?_ ?_ ?_ ?_, fun k hk => ?_, ((((al_ch w _).al _).al _).al _).al _⟩
 ·exact blk_alloc (blk_alloc (blk_alloc (blk_alloc (World.alloc_heap_new w _))))
 ·have h := blk_alloc (x := .map #[] 0) (World.alloc_heap_new (w.alloc (.cells #[.slice none 0 0] 46)) (.cells #[.int .i64 0] 3))
  refine blk_alloc (blk_alloc ?_)
  simpa using h
 ·have h := World.alloc_heap_new ((w.alloc (.cells #[.slice none 0 0] 46)).alloc (.cells #[.int .i64 0] 3)) (.map #[] 0)
  refine blk_alloc (blk_alloc ?_)
  simpa using h
 ·have h := World.alloc_heap_new (((w.alloc (.cells #[.slice none 0 0] 46)).alloc (.cells #[.int .i64 0] 3)).alloc (.map #[] 0)) (.map #[] 0)
  refine blk_alloc ?_
  simpa using h
 ·have h := fun o => World.alloc_heap_new ((((w.alloc (.cells #[.slice none 0 0] 46)).alloc (.cells #[.int .i64 0] 3)).alloc (.map #[] 0)).alloc (.map #[] 0)) o
  simpa using h _
 ·rcases hk with rfl | ⟨i, _, h⟩ | rfl | rfl
  ·omega
  ·have := newG_own h; omega
  ·unfold newG; dsimp only; omega
  ·unfold newG; dsimp only; omega
end Go.Proofs.Ytejciampbnfbhaa
