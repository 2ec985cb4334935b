/-
  The document's Solve.
-/
import Derived.Test.YtficijneelpmcaaGreatMEa
set_option linter.unusedVariables false
set_option linter.unusedSimpArgs false
namespace Go.Proofs.YtficijneelpmcaaGreat
open Go.RowKit

namespace Dg
def rounds (f k : Nat) (d : D) : List Int → Option Bool
  | [] => some false
  | n :: l => (round f k d n []).bind fun p => if p.1 = true then some true else rounds f k d l
def bigs (f k : Nat) (d : D) : List Int → Option Bool
  | [] => some false
  | n :: l => (parts f k d n []).bind fun p => if 300 < p.1 then some true else bigs f k d l
def tolds (f k : Nat) (d : D) : List Int → NM → Option (List Ty.P)
  | [], _ => some []
  | n :: l, N => (told f k d n N).bind fun x => (tolds f k d l x.2).map (x.1 :: ·)
instance (d : D) (N : Nat) : Decidable (d.room N) := decidable_of_iff (d.kind.length + N < big ∧ d.a.length + N < big ∧ d.b.length + N < big ∧ d.row.length + N < big ∧ d.link.length + N < big ∧ d.ops.length + N < big ∧ d.next.length + N < big)
  ⟨fun ⟨h0, h1, h2, h3, h4, h5, h6⟩ => ⟨h0, h1, h2, h3, h4, h5, h6⟩, fun ⟨h0, h1, h2, h3, h4, h5, h6⟩ => ⟨h0, h1, h2, h3, h4, h5, h6⟩⟩
def solve (f k : Nat) : List (Ty.P × Ty.P) → Nat → D → List Int → Option (List Ty.P × Nat × Nat)
  | [], _, d, l => (tolds f k d l ([], [])).map fun o => (o, 0, 0)
  | p :: r, i, d, l => if d.room (3 * p.1.parts + 3 * p.2.parts) then
    (same f k (of p.2 (of p.1 d).2).2 (of p.1 d).1 (of p.2 (of p.1 d).2).1).bind fun s => if s.1 = false then some ([], 8, i) else
    (rounds f k s.2 (l ++ [(of p.1 d).1])).bind fun b => if b = true then some ([], 8, i) else
    (bigs f k s.2 (l ++ [(of p.1 d).1])).bind fun b => if b = true then some ([], 10, i) else
    solve f k r (i + 1) s.2 (l ++ [(of p.1 d).1])
    else none
end Dg

def SolveRet (w : World) (out : List Ty.P) (k a : Nat) (en : Ending) (w' : World) : Prop := ∃ v, en = .returned (.tuple #[v, flt k a]) ∧ TysV w' v out ∧ Ch (fun _ => False) w w'

/-- What is known of the pairs' types once all are proper. -/
def PsF (w : World) (A B : Nat → Raw) (ps : List (Ty.P × Ty.P)) : Prop := ∀ i p, ps[i]? = some p → FitsR w (A i) p.1 ∧ FitsR w (B i) p.2

def AllP (w : World) (n : Nat) (A B : Nat → Raw) : Prop := ∀ i, i < n → PropR w (A i) ∧ PropR w (B i)
def RSP (f k : Nat) (w : World) (n : Nat) (A B : Nat → Raw) (en : Ending) (w' : World) : Prop :=
  (∃ j, j < n ∧ AllP w j A B ∧ ¬ (PropR w (A j) ∧ PropR w (B j)) ∧ SolvePost w 11 j en w') ∨
  (AllP w n A B ∧ ∃ ps out fk fa, ps.length = n ∧ PsF w A B ps ∧ Dg.solve f k ps 0 Dg.empty [] = some (out, fk, fa) ∧ SolveRet w out fk fa en w')

set_option maxRecDepth 100000 in
set_option maxHeartbeats 16000000 in
theorem RSolve_any (f k : Nat) (w : World) (g o n c : Nat) (A B : Nat → Raw) (hn : n ≤ 20) (hM : PrM w g o n A B)
    (hps : AllP w n A B → ∃ ps out fk fa, ps.length = n ∧ PsF w A B ps ∧ Dg.solve f k ps 0 Dg.empty [] = some (out, fk, fa)) :
    Calls Tryz.prog 5 #[.slice (some ⟨g, o, none⟩) n c] w fun en w' => RSP f k w n A B en w' := by
  have h1 : ¬ ((20 : Int) < n) := by omega
  replace hps := hid hps
  replace hM := hid hM
  go_enter Tryz.func5, Tryz.ntmps5
  go_wp2
  have hlf : Hid ((w.alloc (.cells #[.int .i64 0, .int .i64 0] 26)).heap[w.heap.size]? = some (.cells #[.int .i64 0, .int .i64 0] 26 (0, 0))) := World.alloc_heap_new w _
  have hc0 : Hid (Ch (fun _ => False) w (w.alloc (.cells #[.int .i64 0, .int .i64 0] 26))) := al_ch w _
  generalize w.alloc (.cells #[.int .i64 0, .int .i64 0] 26) = W0 at *
  go_loopg [4] (n + 1) (fun q v wr => ∃ i : Nat, v = .int .i64 (i : Nat) ∧ i ≤ n ∧ q = n + 1 - i ∧ Hid (∀ j, j < i → PropR w (A j) ∧ PropR w (B j)) ∧ Hid (Ch (fun _ => False) W0 wr))
  case atStart => exact ⟨0, rfl, by omega, by omega, fun j hj => absurd hj (by omega), Ch.refl _ _⟩
  case round =>
    obtain ⟨i, rfl, hi, rfl, hP, hC⟩ := hrel
    by_cases e : i < n
    · have i0 : (0 : Int) ≤ i := by omega
      have i1 : (i : Int) < (n : Int) := by omega
      have hcw : Hid (Ch (fun _ => False) w wr) := hc0.out.trans hC.out (fun _ h => h.elim)
      have hMr := hid (hM.out.keep hcw.out)
      obtain ⟨⟨a0, a1, a2, a3, a4⟩, ra⟩ := hMr.out.a i e
      have hra := hid ra
      have HA := proper_top wr (A i).k (A i).n (A i).r (A i).os (A i).az ra
      clear ra
      go_upto_region 7 with (go_at_call 11; refine HA.mono ?_; clear HA; rintro e w1 ⟨ok1, rfl, hb1, hf1⟩; replace hf1 := hid (hf1.trans (prop_iff hcw.out (hM.out.a i e).2)); replace hb1 := hid (below_ch hb1))
      clear a0 a1 a2 a3 a4 hra
      have hMs := hid (hMr.out.keep hb1.out)
      have hcv : Hid (Ch (fun _ => False) w w1) := hcw.out.trans hb1.out (fun _ h => h.elim)
      obtain ⟨⟨a0, a1, a2, a3, a4⟩, ra⟩ := hMs.out.b i e
      have HB := proper_top w1 (B i).k (B i).n (B i).r (B i).os (B i).az ra
      clear ra hMr
      go_upto_region 8 with (go_at_call 11; refine HB.mono ?_; clear HB; rintro e w2 ⟨ok2, rfl, hb2, hf2⟩; replace hf2 := hid (hf2.trans (prop_iff hcv.out (hM.out.b i e).2)); replace hb2 := hid (below_ch hb2))
      clear a0 a1 a2 a3 a4 hMs
      have hcu : Hid (Ch (fun _ => False) W0 w2) := (hC.out.trans hb1.out (fun _ h => h.elim)).trans hb2.out (fun _ h => h.elim)
      obtain ⟨l0, l1, l2, l3⟩ := flt_cells (hcu.out.keeps hlf.out (fun h => h))
      have bad : ∀ (x y : Bool), Hid (x = true ↔ PropR w (A i)) → Hid (y = true ↔ PropR w (B i)) → (x = false ∨ y = false) → ¬ (PropR w (A i) ∧ PropR w (B i)) := by
        intro x y h1 h2 h3 h4
        rcases h3 with rfl | rfl
        · have := h1.out.2 h4.1; cases this
        · have := h2.out.2 h4.2; cases this
      have ends : ∀ v : World, Ch (fun _ => False) W0 v → Ch (fun _ => False) w v := fun v hv => hc0.out.trans hv (fun _ h => h.elim)
      cases ok1 with
      | false =>
        have hbad := hid (bad _ _ hf1 hf2 (.inl rfl))
        go_wp2
        refine bodyPost_ret (v := .tuple #[.slice none 0 0, flt 11 i]) (by simp [results, Tryz.results5, go_sem, l0, l1, l2, l3]) rfl ?_
        exact .inl ⟨i, e, hP.out, hbad.out, rfl, (((hc0.out.trans hcu.out (fun _ h => h.elim)).setX _ 0 _ (.inr (Nat.le_refl _))).setX _ 1 _ (.inr (Nat.le_refl _)))⟩
      | true =>
        cases ok2 with
        | false =>
          have hbad := hid (bad _ _ hf1 hf2 (.inr rfl))
          go_wp2
          refine bodyPost_ret (v := .tuple #[.slice none 0 0, flt 11 i]) (by simp [results, Tryz.results5, go_sem, l0, l1, l2, l3]) rfl ?_
          exact .inl ⟨i, e, hP.out, hbad.out, rfl, (((hc0.out.trans hcu.out (fun _ h => h.elim)).setX _ 0 _ (.inr (Nat.le_refl _))).setX _ 1 _ (.inr (Nat.le_refl _)))⟩
        | true =>
          go_wp2
          go_roundg (n - i)
          case measure => omega
          case rel =>
            refine ⟨i + 1, by simp, by omega, by omega, fun j hj => ?_, hcu.out⟩
            by_cases ej : j = i
            · subst ej
              exact ⟨hf1.out.1 (by trivial), hf2.out.1 (by trivial)⟩
            · exact hP.out j (by omega)
    · obtain rfl : i = n := by omega
      obtain ⟨ps, out, fk, fa, hpl, hpf, hsv⟩ := hps.out hP.out
      have HE : Hid (∀ en w', SolveRet w out fk fa en w' → RSP f k w i A B en w') := fun en w' h => .inr ⟨hP.out, ps, out, fk, fa, hpl, hpf, hsv, h⟩
      have hcw : Hid (Ch (fun _ => False) w wr) := hc0.out.trans hC.out (fun _ h => h.elim)
      have HN := New_any wr
      replace hpf := hid hpf
      replace hsv := hid hsv
      replace hpl := hid hpl
      have i1 : ¬ (i : Int) < (i : Int) := by omega
      go_upto_region 12 with (go_at_call 12; refine HN.mono ?_; clear HN; rintro e w1 ⟨b, G, rfl, hG, hGo, hc1⟩; replace hG := hid hG; replace hGo := hid hGo; replace hc1 := hid hc1)
      have hM0 := hM
      clear hM
      have hL0 : Hid (L2 W0 w1 b G Dg.empty (.slice none 0 0) []) := by
        have hc2 := hC.out.trans hc1.out (fun _ h => h.elim)
        exact ⟨hG.out, ⟨hc2.size, fun k hk => hc2.same k hk (fun h => h), fun k hk => Nat.le_trans hC.out.size (hGo.out k hk)⟩, World.ownsRow_nil _ _ _ _, fun k hk => (by cases hk), hc2.eo⟩
      have hEl : Hid (∀ m p, ps[m]? = some p → ∃ os az os2 az2, ElT W0 g (o + m * 10) p.1 os az ∧ IsT W0 p.1 os az ∧ ElT W0 g (o + m * 10 + 5) p.2 os2 az2 ∧ IsT W0 p.2 os2 az2) := fun m p hm => by
        have hml : m < i := by rw [← hpl.out]; exact (List.getElem?_eq_some_iff.1 hm).1
        obtain ⟨⟨_, x1, x2, x3, x4⟩, ⟨_, y1, y2, y3, y4⟩⟩ := hpf.out m p hm
        have hs : ∀ k, k < w.heap.size → W0.heap[k]? = w.heap[k]? := fun k hk => hc0.out.same k hk (fun h => h)
        have e1 := (hM0.out.a m hml).1
        have e2 := (hM0.out.b m hml).1
        unfold ElR at e1 e2
        rw [x1, x2, x3] at e1
        rw [y1, y2, y3] at e2
        exact ⟨_, _, _, _, e1.of_heap (hs g e1.lt), IsT.carry hs x4, e2.of_heap (hs g e2.lt), IsT.carry hs y4⟩
      clear hG hGo hc1 hpf
      go_upto_region 13 with (fail)
      go_loopg [8, 9] (i + 1) (fun q v8 v9 wr => ∃ (m : Nat) (G : Gg) (d : Dg.D) (l : List Int), v9 = .int .i64 (m : Nat) ∧ m ≤ i ∧ q = i + 1 - m ∧ Hid (l.length = m) ∧ Hid (L2 W0 wr b G d v8 l) ∧ Hid (Dg.solve f k (ps.drop m) m d l = some (out, fk, fa)))
      case atStart => exact ⟨0, G, Dg.empty, [], rfl, by omega, by omega, rfl, hL0, by simpa using hsv⟩
      case round =>
        clear hsv hL0 hC
        obtain ⟨m, G, d, l, rfl, hm, rfl, hll, hL, hsv⟩ := hrel
        by_cases e : m < i
        · have m0 : (0 : Int) ≤ m := by omega
          have m1 : (m : Int) < (i : Int) := by omega
          have hml : m < ps.length := by rw [hpl.out]; exact e
          obtain ⟨p, hp⟩ : ∃ p, ps[m]? = some p := ⟨ps[m], by simp⟩
          have hs := hsv.out
          rw [List.drop_eq_getElem_cons hml, show ps[m] = p by simpa [hml] using hp] at hs
          unfold Dg.solve at hs
          clear hml
          by_cases hroom : d.room (3 * p.1.parts + 3 * p.2.parts)
          case neg => rw [if_neg hroom] at hs; cases hs
          rw [if_pos hroom] at hs
          have hr2 := hid (Dg.of_room p.1 (d := d) (N := 3 * p.2.parts) (hroom.le (by omega)))
          obtain ⟨os, az, os2, az2, e1, t1, e2, t2⟩ := hEl.out m p hp
          have HO := Of_any W0 b p.1 hL.out.gd (hroom.le (by omega)) hL.out.past t1
          obtain ⟨a0, a1, a2, a3, a4⟩ := hL.out.past.el e1
          generalize hX : Dg.of p.1 d = X at *
          obtain ⟨⟨ok, d2⟩, hsm, hs2⟩ := Option.bind_eq_some_iff.1 hs
          replace hs2 := hid hs2
          replace hsm := hid hsm
          replace e2 := hid e2
          replace t2 := hid t2
          replace hp := hid hp
          replace hX := hid hX
          clear hs hroom e1 t1 hsv
          go_upto_region 16 with (go_at_call 13; refine HO.mono ?_; clear HO; rintro e w2 ⟨rfl, hg2⟩; replace hg2 := hid hg2)
          obtain ⟨G2, hL2⟩ := hL.out.gs hg2.out
          replace hL2 := hid hL2
          have HO := Of_any W0 b p.2 hL2.out.gd hr2.out hL2.out.past t2.out
          clear a0 a1 a2 a3 a4
          obtain ⟨a0, a1, a2, a3, a4⟩ := hL2.out.past.el e2.out
          clear hL hg2 hr2
          generalize hY : Dg.of p.2 X.2 = Y at *
          replace hY := hid hY
          go_upto_region 17 with (go_at_call 13; refine HO.mono ?_; clear HO; rintro e w3 ⟨rfl, hg3⟩; replace hg3 := hid hg3)
          clear a0 a1 a2 a3 a4
          obtain ⟨G3, hL3⟩ := hL2.out.gs hg3.out
          replace hL3 := hid hL3
          clear hL2 hg3
          have hlb : l.length < 100 := by rw [hll.out]; omega
          have hla := hid (hL3.out.quiet (al_ch w3 (.cells #[.int .i64 X.1] 3)))
          have hlr := hla.out.row
          go_upto_region 18 with (at_builtin; go_must (refine list_append rfl (.tmp 71) (.tmp 73) 51 rfl 3 _ 1 8 Tryz.underlying51 Tryz.infoInt rfl (by decide) _ _ _ rfl hlr ⟨_, 0, none⟩ 1 1 [.int .i64 X.1] rfl rfl (new_int w3 X.1) (by intro u hu; simp at hu; subst hu; rfl) (by unfold maxLen; omega) (by omega) ?_); intro v' w4 hrow hgrow hblk)
          have hL4 := hid (hla.out.app hrow hgrow hblk)
          clear hla hL3 hrow hgrow hblk hlr
          have HS := Same_any b f k hL4.out.gd hsm.out
          go_upto_region 19 with (go_at_call 14; refine HS.mono ?_; clear HS; rintro e w5 ⟨rfl, hg5⟩; replace hg5 := hid hg5)
          obtain ⟨G5, hL5⟩ := hL4.out.gs hg5.out
          replace hL5 := hid hL5
          clear hL4 hg5 hsm
          cases ok with
          | false =>
            have hs3 := hs2.out
            simp only [if_true] at hs3
            obtain ⟨rfl, rfl, rfl⟩ : out = [] ∧ fk = 8 ∧ m = fa := by
              have := Option.some.inj hs3
              simp only [Prod.mk.injEq] at this
              exact ⟨this.1.symm, this.2.1.symm, this.2.2⟩
            clear hs3 hs2
            obtain ⟨l0, l1, l2, l3⟩ := flt_cells (hL5.out.ch.keeps hlf.out (fun h => h))
            go_wp2
            refine bodyPost_ret (v := .tuple #[.slice none 0 0, flt 8 m]) (by simp [results, Tryz.results5, go_sem, l0, l1, l2, l3]) rfl ?_
            refine HE.out _ _ ⟨.slice none 0 0, rfl, ⟨none, 0, rfl, fun h => absurd rfl h⟩, ?_⟩
            exact (((hc0.out.trans hL5.out.ch (fun _ h => h.elim)).setX _ 0 _ (.inr (Nat.le_refl _))).setX _ 1 _ (.inr (Nat.le_refl _)))
          | true =>
            have hs3 := hs2.out
            simp only [Bool.true_eq_false, if_false] at hs3
            obtain ⟨rb, hrb, hs4⟩ := Option.bind_eq_some_iff.1 hs3
            clear hs3 hs2
            replace hs4 := hid hs4
            replace hrb := hid hrb
            have hlm : Hid ((l ++ [X.1]).length = m + 1) := by simp [Hid, hll.out]
            generalize hl2 : l ++ [X.1] = ll at *
            replace hl2 := hid hl2
            go_upto_region 22 with (fail)
            go_loopg [13] (m + 2) (fun q v13 wr => ∃ j : Nat, v13 = .int .i64 (j : Nat) ∧ j ≤ m + 1 ∧ q = m + 2 - j ∧ Hid (L2 W0 wr b G5 d2 v' ll) ∧ Hid (Dg.rounds f k d2 (ll.drop j) = some rb))
            case atStart => exact ⟨0, rfl, by omega, by omega, hL5, by simpa using hrb⟩
            case round =>
              clear hrb hL5
              obtain ⟨j, rfl, hj, rfl, hL6, hrb⟩ := hrel
              by_cases ej : j ≤ m
              · have j0 : (0 : Int) ≤ j := by omega
                have j1 : (j : Int) ≤ (m : Int) := by omega
                have hjl : j < ll.length := by rw [hlm.out]; omega
                have j2 : (j : Int) < (ll.length : Int) := by omega
                obtain ⟨x, hx⟩ : ∃ x, ll[j]? = some x := ⟨ll[j], by simp⟩
                have hr1 := hrb.out
                rw [List.drop_eq_getElem_cons hjl, show ll[j] = x by simpa [hjl] using hx] at hr1
                unfold Dg.rounds at hr1
                obtain ⟨⟨r, mm⟩, hrr, hr2⟩ := Option.bind_eq_some_iff.1 hr1
                have HR := hL6.out.gd.Round hrr
                obtain ⟨gg, cc, rfl, ca⟩ := hL6.out.at hx
                replace hr2 := hid hr2
                clear hr1 hrr hrb hjl hx
                go_upto_region 25 with (go_at_call 15; refine HR.mono ?_; clear HR; rintro e w6 ⟨rfl, hc6⟩; replace hc6 := hid hc6)
                clear ca
                have hL7 := hid (hL6.out.quiet hc6.out)
                clear hL6 hc6
                cases r with
                | true =>
                  have hr3 := hr2.out
                  simp only [if_true] at hr3
                  obtain rfl := Option.some.inj hr3
                  have hs5 := hs4.out
                  simp only [if_true] at hs5
                  obtain ⟨rfl, rfl, rfl⟩ : out = [] ∧ fk = 8 ∧ m = fa := by
                    have := Option.some.inj hs5
                    simp only [Prod.mk.injEq] at this
                    exact ⟨this.1.symm, this.2.1.symm, this.2.2⟩
                  clear hs5 hs4 hr2 hr3
                  obtain ⟨l0, l1, l2, l3⟩ := flt_cells (hL7.out.ch.keeps hlf.out (fun h => h))
                  go_wp2
                  refine bodyPost_ret (v := .tuple #[.slice none 0 0, flt 8 m]) (by simp [results, Tryz.results5, go_sem, l0, l1, l2, l3]) rfl ?_
                  refine HE.out _ _ ⟨.slice none 0 0, rfl, ⟨none, 0, rfl, fun h => absurd rfl h⟩, ?_⟩
                  exact (((hc0.out.trans hL7.out.ch (fun _ h => h.elim)).setX _ 0 _ (.inr (Nat.le_refl _))).setX _ 1 _ (.inr (Nat.le_refl _)))
                | false =>
                  go_wp2
                  go_roundg (m + 1 - j)
                  case measure => omega
                  case rel => exact ⟨j + 1, by simp, by omega, by omega, hL7, hid (by simpa using hr2.out)⟩
              · obtain rfl : j = m + 1 := by omega
                have j1 : ¬ (((m + 1 : Nat) : Int) ≤ (m : Int)) := by omega
                have hr1 := hrb.out
                rw [List.drop_eq_nil_of_le (by rw [hlm.out]; exact Nat.le_refl _)] at hr1
                obtain rfl := Option.some.inj hr1
                clear hr1 hrb
                have hs5 := hs4.out
                simp only [Bool.false_eq_true, if_false] at hs5
                obtain ⟨rb, hrb, hs6⟩ := Option.bind_eq_some_iff.1 hs5
                clear hs5 hs4
                replace hs6 := hid hs6
                replace hrb := hid hrb
                go_upto_region 28 with (fail)
                go_loopg [15] (m + 2) (fun q v15 wr => ∃ j : Nat, v15 = .int .i64 (j : Nat) ∧ j ≤ m + 1 ∧ q = m + 2 - j ∧ Hid (L2 W0 wr b G5 d2 v' ll) ∧ Hid (Dg.bigs f k d2 (ll.drop j) = some rb))
                case atStart => exact ⟨0, rfl, by omega, by omega, hL6, by simpa using hrb⟩
                case round =>
                  clear hrb hL6
                  obtain ⟨j, rfl, hj, rfl, hL6, hrb⟩ := hrel
                  by_cases ej : j ≤ m
                  · have j0 : (0 : Int) ≤ j := by omega
                    have j1 : (j : Int) ≤ (m : Int) := by omega
                    have hjl : j < ll.length := by rw [hlm.out]; omega
                    have j2 : (j : Int) < (ll.length : Int) := by omega
                    obtain ⟨x, hx⟩ : ∃ x, ll[j]? = some x := ⟨ll[j], by simp⟩
                    have hr1 := hrb.out
                    rw [List.drop_eq_getElem_cons hjl, show ll[j] = x by simpa [hjl] using hx] at hr1
                    unfold Dg.bigs at hr1
                    obtain ⟨⟨r, mm⟩, hrr, hr2⟩ := Option.bind_eq_some_iff.1 hr1
                    have HR := hL6.out.gd.Parts hrr
                    obtain ⟨gg, cc, rfl, ca⟩ := hL6.out.at hx
                    replace hr2 := hid hr2
                    clear hr1 hrr hrb hjl hx
                    go_upto_region 31 with (go_at_call 16; refine HR.mono ?_; clear HR; rintro e w6 ⟨rfl, hc6⟩; replace hc6 := hid hc6)
                    clear ca
                    have hL7 := hid (hL6.out.quiet hc6.out)
                    clear hL6 hc6
                    by_cases hr300 : 300 < r
                    · have hr3 := hr2.out
                      simp only [if_pos hr300] at hr3
                      obtain rfl := Option.some.inj hr3
                      have hs5 := hs6.out
                      simp only [if_true] at hs5
                      obtain ⟨rfl, rfl, rfl⟩ : out = [] ∧ fk = 10 ∧ m = fa := by
                        have := Option.some.inj hs5
                        simp only [Prod.mk.injEq] at this
                        exact ⟨this.1.symm, this.2.1.symm, this.2.2⟩
                      clear hs5 hs6 hr2 hr3
                      obtain ⟨l0, l1, l2, l3⟩ := flt_cells (hL7.out.ch.keeps hlf.out (fun h => h))
                      go_wp2
                      refine bodyPost_ret (v := .tuple #[.slice none 0 0, flt 10 m]) (by simp [results, Tryz.results5, go_sem, l0, l1, l2, l3]) rfl ?_
                      refine HE.out _ _ ⟨.slice none 0 0, rfl, ⟨none, 0, rfl, fun h => absurd rfl h⟩, ?_⟩
                      exact (((hc0.out.trans hL7.out.ch (fun _ h => h.elim)).setX _ 0 _ (.inr (Nat.le_refl _))).setX _ 1 _ (.inr (Nat.le_refl _)))
                    · have hr3 := hr2.out
                      simp only [if_neg hr300] at hr3
                      replace hr3 := hid hr3
                      go_wp2
                      go_roundg (m + 1 - j)
                      case measure => omega
                      case rel => exact ⟨j + 1, by simp, by omega, by omega, hL7, hid (by simpa using hr3.out)⟩
                  · obtain rfl : j = m + 1 := by omega
                    have j1 : ¬ (((m + 1 : Nat) : Int) ≤ (m : Int)) := by omega
                    have hr1 := hrb.out
                    rw [List.drop_eq_nil_of_le (by rw [hlm.out]; exact Nat.le_refl _)] at hr1
                    obtain rfl := Option.some.inj hr1
                    clear hr1 hrb
                    have hs7 := hs6.out
                    simp only [Bool.false_eq_true, if_false] at hs7
                    replace hs7 := hid hs7
                    clear hs6
                    go_wp2
                    go_roundg (i - m)
                    case measure => omega
                    case rel => exact ⟨m + 1, G5, d2, ll, by simp, by omega, by omega, hlm, hL6, hs7⟩
        · obtain rfl : m = i := by omega
          have m1 : ¬ (m : Int) < (m : Int) := by omega
          have hs := hsv.out
          rw [List.drop_eq_nil_of_le (by rw [hpl.out]; exact Nat.le_refl _)] at hs
          unfold Dg.solve at hs
          obtain ⟨out', hto, hs2⟩ := Option.map_eq_some_iff.1 hs
          obtain ⟨rfl, rfl, rfl⟩ : out' = out ∧ 0 = fk ∧ 0 = fa := by
            simp only [Prod.mk.injEq] at hs2
            exact hs2
          replace hto := hid hto
          clear hs hs2 hsv
          have HF := Fresh_any wr
          go_upto_region 34 with (go_at_call 17; refine HF.mono ?_; clear HF; rintro e w2 ⟨T, R, rfl, mT, mR, neTR, bT, bR, c2⟩; replace mT := hid mT; replace mR := hid mR; replace neTR := hid neTR; replace bT := hid bT; replace bR := hid bR; replace c2 := hid c2)
          have hLs := hid (hL.out.quiet (c2.out.trans (al_ch w2 (.cells #[.map (some T), .map (some R)] 58)) (fun _ h => h.elim)))
          have hnb : Hid ((w2.alloc (.cells #[.map (some T), .map (some R)] 58)).heap[w2.heap.size]? = some (.cells #[.map (some T), .map (some R)] 58 (0, 0))) := World.alloc_heap_new w2 _
          have hnl : Hid (w2.heap.size ≠ T ∧ w2.heap.size ≠ R) := ⟨fun e => by have := mT.out.lt; omega, fun e => by have := mR.out.lt; omega⟩
          have hfl : Hid (w.heap.size ≠ T ∧ w.heap.size ≠ R) := by
            have h0 := (Array.getElem?_eq_some_iff.1 hlf.out).1
            have h1 := hL.out.past.size
            exact ⟨fun e => by have := bT.out; omega, fun e => by have := bR.out; omega⟩
          have hTw : Hid (w.heap.size ≤ T ∧ w.heap.size ≤ R) := by
            have h0 := (Array.getElem?_eq_some_iff.1 hlf.out).1
            have h1 := hL.out.past.size
            exact ⟨by have := bT.out; omega, by have := bR.out; omega⟩
          have h5 : Hid (L5 (w2.alloc (.cells #[.map (some T), .map (some R)] 58)) (w2.alloc (.cells #[.map (some T), .map (some R)] 58)) b G d T R ([], [])) := by
            have hm := (al_ch w2 (.cells #[.map (some T), .map (some R)] 58))
            exact ⟨hLs.out.gd, out_ge hL.out.gd bT.out, out_ge hL.out.gd bR.out, neTR.out, Nat.lt_of_lt_of_le mT.out.lt hm.size, Nat.lt_of_lt_of_le mR.out.lt hm.size, Ch.refl _ _, mT.out.keep (hm.same _ mT.out.lt (fun h => h)), mR.out.keep (hm.same _ mR.out.lt (fun h => h))⟩
          have hTl : Hid (∀ k, u8.ownBlock = some k → ¬ isTR T R k) := fun k hk e => by
            have h1 := ownsRow_lt hL.out.row hk
            have h2 := bT.out
            have h3 := bR.out
            rcases e with rfl | rfl <;> omega
          clear mT mR neTR bT bR c2 hL
          generalize w2.alloc (.cells #[.map (some T), .map (some R)] 58) = Ws at *
          generalize w2.heap.size = nb at *
          go_upto_region 36 with (fail)
          go_loopg [18, 19] (m + 1) (fun q v18 v19 wr => ∃ (j : Nat) (N : Dg.NM) (es : List Ent) (rest : List Ty.P), v19 = .int .i64 (j : Nat) ∧ j ≤ m ∧ q = m + 1 - j ∧ Hid (es.length = j) ∧ Hid (L5 Ws wr b G d T R N) ∧ Hid (OutI Ws.heap.size wr v18 es) ∧ Hid (Dg.tolds f k d (l.drop j) N = some rest) ∧ Hid (out' = es.map (·.1) ++ rest))
          case atStart => exact ⟨0, ([], []), [], out', rfl, by omega, by omega, rfl, h5, OutI.nil _ _, by simpa using hto, rfl⟩
          case round =>
            clear h5 hto
            obtain ⟨j, N, es, rest, rfl, hj, rfl, hes, h5, hO, hto, hout⟩ := hrel
            by_cases ej : j < m
            · have j0 : (0 : Int) ≤ j := by omega
              have j1 : (j : Int) < (m : Int) := by omega
              have hjl : j < l.length := by rw [hll.out]; exact ej
              have j2 : (j : Int) < (l.length : Int) := by omega
              obtain ⟨x, hx⟩ : ∃ x, l[j]? = some x := ⟨l[j], by simp⟩
              have hr1 := hto.out
              rw [List.drop_eq_getElem_cons hjl, show l[j] = x by simpa [hjl] using hx] at hr1
              unfold Dg.tolds at hr1
              obtain ⟨⟨t, N'⟩, htd, hr2⟩ := Option.bind_eq_some_iff.1 hr1
              obtain ⟨rest2, hr3, rfl⟩ := Option.map_eq_some_iff.1 hr2
              have h5d := hid (h5.out.step (Ch.drew (fun _ => False) wr) (fun _ h => h.elim) (h5.out.mT.keep rfl) (h5.out.mR.keep rfl))
              obtain ⟨gd, nm⟩ := h5d.out.now
              have HT := Told_any b T R f k gd nm htd
              obtain ⟨gg, cc, hu8, ca⟩ := hLs.out.at hx
              have ca2 := cell_ch h5.out.ch ca (hTl.out gg (by rw [hu8]; rfl))
              subst hu8
              obtain ⟨n0, n1, _, _⟩ := flt_cells (h5.out.ch.keeps hnb.out (fun e => by rcases e with e | e; exact hnl.out.1 e; exact hnl.out.2 e))
              replace hr3 := hid hr3
              clear hr1 hr2 htd gd nm hjl hx hto ca
              have hes100 : es.length < 1000 := by rw [hes.out]; omega
              have nTg := hid (hTl.out gg rfl)
              have nTn : Hid (¬ isTR T R nb) := fun e => by rcases e with e | e; exact hnl.out.1 e; exact hnl.out.2 e
              have bg : Hid (gg < Ws.heap.size) := ownsRow_lt hLs.out.row rfl
              have bn : Hid (nb < Ws.heap.size) := (Array.getElem?_eq_some_iff.1 hnb.out).1
              go_upto_region 38 with (fail)
              refine wp_region_held_drew (S := (fun w' => w'.cell? ⟨gg, j, none⟩ = some (.int .i64 x) ∧ w'.cell? ⟨nb, 0, none⟩ = some (.map (some T)) ∧ w'.cell? ⟨nb, 1, none⟩ = some (.map (some R)))) (by kernel_rfl) (by first | trivial | ((try dsimp only); go_keep)) (fun hHeld => ?_)
              refine wpAnyH_take (i := 0) (v := ?vvb1) rfl (by kernel_rfl) (by kernel_rfl) (by kernel_rfl) (fun _ _ _ h => h) (Or.inl ⟨by rfl, ?yyb1⟩) (by assumption) ?rrb1
              case yyb1 => (intro w' hSw; (try dsimp only at hSw); go_simp; (try with_reducible rfl))
              try simp only [Act.put, List.setIfInBounds_toArray, List.set_cons_zero, List.set_cons_succ]
              refine wpAnyH_take (i := 1) (v := ?vvb2) rfl (by kernel_rfl) (by kernel_rfl) (by kernel_rfl) (fun _ _ _ h => h) (Or.inl ⟨by rfl, ?yyb2⟩) (by assumption) ?rrb2
              case yyb2 => (intro w' hSw; (try dsimp only at hSw); go_simp; (try with_reducible rfl))
              try simp only [Act.put, List.setIfInBounds_toArray, List.set_cons_zero, List.set_cons_succ]
              refine wpAnyH_take (i := 2) (v := ?vvb3) rfl (by kernel_rfl) (by kernel_rfl) (by kernel_rfl) (fun _ _ _ h => h) (Or.inl ⟨by rfl, ?yyb3⟩) (by assumption) ?rrb3
              case yyb3 => (intro w' hSw; (try dsimp only at hSw); go_simp; (try with_reducible rfl))
              try simp only [Act.put, List.setIfInBounds_toArray, List.set_cons_zero, List.set_cons_succ]
              refine wpAnyH_take (i := 3) (v := ?vvb4) rfl (by kernel_rfl) (by kernel_rfl) (by kernel_rfl) (fun _ _ _ h => h) (Or.inl ⟨by rfl, ?yyb4⟩) (by assumption) ?rrb4
              case yyb4 => (intro w' hSw; (try dsimp only at hSw); go_simp; (try with_reducible rfl))
              try simp only [Act.put, List.setIfInBounds_toArray, List.set_cons_zero, List.set_cons_succ]
              refine wpAnyH_take (i := 4) (v := ?vvb5) rfl (by kernel_rfl) (by kernel_rfl) (by kernel_rfl) (fun _ _ _ h => h) (Or.inl ⟨by rfl, ?yyb5⟩) (by assumption) ?rrb5
              case yyb5 => (intro w' hSw; (try dsimp only at hSw); go_simp; (try with_reducible rfl))
              try simp only [Act.put, List.setIfInBounds_toArray, List.set_cons_zero, List.set_cons_succ]
              refine wpAnyH_take (i := 5) (v := ?vvb6) rfl (by kernel_rfl) (by kernel_rfl) (by kernel_rfl) (fun _ _ _ h => h) (Or.inl ⟨by rfl, ?yyb6⟩) (by assumption) ?rrb6
              case yyb6 => (intro w' hSw; (try dsimp only at hSw); go_simp; (try with_reducible rfl))
              try simp only [Act.put, List.setIfInBounds_toArray, List.set_cons_zero, List.set_cons_succ]
              refine wpAnyH_take (i := 6) (v := ?vvb7) rfl (by kernel_rfl) (by kernel_rfl) (by kernel_rfl) (fun _ _ _ h => h) (Or.inl ⟨by rfl, ?yyb7⟩) (by assumption) ?rrb7
              case yyb7 => (intro w' hSw; (try dsimp only at hSw); go_simp; (try with_reducible rfl))
              try simp only [Act.put, List.setIfInBounds_toArray, List.set_cons_zero, List.set_cons_succ]
              refine wpAnyH_ready (rs := [7]) (by kernel_rfl) (by simp) (AllReadyH.cons rfl (fun K hK => ?_) AllReadyH.nil)
              go_simp
              refine HT.mono ?_
              clear HT
              rintro e w6 ⟨os, az, rfl, hrb, mT6, mR6, c6⟩
              have hS5 := And.intro (cell_ch c6 ca2 nTg.out) (And.intro (cell_ch c6 n0 nTn.out) (cell_ch c6 n1 nTn.out))
              have hS6 := hS5
              replace hrb := hid hrb
              replace mT6 := hid mT6
              replace mR6 := hid mR6
              replace c6 := hid c6
              dsimp only
              clear hHeld
              refine hK.out _ _ ?hs (fun hHeld => ?_)
              case hs => (first | exact hS5 | trivial | ((try dsimp only); go_keep) | ((try dsimp only); simp [*, World.cell?_alloc_some, World.cell?_setCell_far, World.cell?_setCell_other]))
              clear hK K
              try simp only [Act.put, List.setIfInBounds_toArray, List.set_cons_zero, List.set_cons_succ]
              refine wpAnyH_ready (rs := [8]) (by kernel_rfl) (by simp) (AllReadyH.cons rfl (fun K hK => ?_) AllReadyH.nil)
              go_simp
              have hS5 := And.intro (cell_ch (al_ch w6 (.cells #[.int .i64 t.kind, .int .i64 t.num, .int .i64 t.row, os, az] 32)) hS6.1 (fun h => h)) (And.intro (cell_ch (al_ch w6 (.cells #[.int .i64 t.kind, .int .i64 t.num, .int .i64 t.row, os, az] 32)) hS6.2.1 (fun h => h)) (cell_ch (al_ch w6 (.cells #[.int .i64 t.kind, .int .i64 t.num, .int .i64 t.row, os, az] 32)) hS6.2.2 (fun h => h)))
              clear hHeld
              refine hK.out _ _ ?hs (fun hHeld => ?_)
              case hs => (first | exact hS5 | trivial | ((try dsimp only); go_keep) | ((try dsimp only); simp [*, World.cell?_alloc_some, World.cell?_setCell_far, World.cell?_setCell_other]))
              clear hK K
              try simp only [Act.put, List.setIfInBounds_toArray, List.set_cons_zero, List.set_cons_succ]
              refine wpAnyH_ready (rs := [9]) (by kernel_rfl) (by simp) (AllReadyH.cons rfl (fun K hK => ?_) AllReadyH.nil)
              have hO6 := (hO.out.ch (Ch.drew (fun _ => False) wr) (fun _ h => h.elim)).ch c6.out (fun k hk => by rcases hk with rfl | rfl; exact h5d.out.tB; exact h5d.out.rB)
              have hOa := hO6.ch (al_ch w6 (.cells #[.int .i64 t.kind, .int .i64 t.num, .int .i64 t.row, os, az] 32)) (fun _ h => h.elim)
              obtain ⟨v', w7, hr7, hrow, hgrow, hblk⟩ := run_append_ty (w := w6.alloc (.cells #[.int .i64 t.kind, .int .i64 t.num, .int .i64 t.row, os, az] 32)) hOa.row (World.alloc_heap_new w6 _) hrb.out.so hrb.out.sa hes100 23
              have c7 := Ch.grown (O := fun k => u18.ownBlock = some k) hgrow (fun k hk => hk)
              have nB : ∀ q, q < Ws.heap.size → ¬ u18.ownBlock = some q := fun q h1 h2 => by have := hO.out.blk q h2; omega
              have hS5 := And.intro (cell_ch c7 (cell_ch (al_ch w6 (.cells #[.int .i64 t.kind, .int .i64 t.num, .int .i64 t.row, os, az] 32)) hS6.1 (fun h => h)) (nB gg bg.out)) (And.intro (cell_ch c7 (cell_ch (al_ch w6 (.cells #[.int .i64 t.kind, .int .i64 t.num, .int .i64 t.row, os, az] 32)) hS6.2.1 (fun h => h)) (nB nb bn.out)) (cell_ch c7 (cell_ch (al_ch w6 (.cells #[.int .i64 t.kind, .int .i64 t.num, .int .i64 t.row, os, az] 32)) hS6.2.2 (fun h => h)) (nB nb bn.out)))
              have hO7 : Hid (OutI Ws.heap.size w7 v' (es ++ [(t, os, az)])) := hOa.app hrb.out (Nat.le_trans h5.out.ch.size (Nat.le_refl _)) (al_ch w6 (.cells #[.int .i64 t.kind, .int .i64 t.num, .int .i64 t.row, os, az] 32)).size (fun k _ h2 => (al_ch w6 (.cells #[.int .i64 t.kind, .int .i64 t.num, .int .i64 t.row, os, az] 32)).same k h2 (fun h => h)) (fun k hk => .inl (ownsRow_lt hO.out.row hk)) hrow hgrow hblk (Nat.le_trans (Nat.le_trans h5d.out.ch.size c6.out.size) (al_ch w6 (.cells #[.int .i64 t.kind, .int .i64 t.num, .int .i64 t.row, os, az] 32)).size)
              have h57 : Hid (L5 Ws w7 b G d T R N') := by
                have a1 : L5 Ws w6 b G d T R N' := h5d.out.step c6.out (fun k hk => .inl hk) mT6.out mR6.out
                have a2 : L5 Ws (w6.alloc (.cells #[.int .i64 t.kind, .int .i64 t.num, .int .i64 t.row, os, az] 32)) b G d T R N' := a1.step (al_ch w6 (.cells #[.int .i64 t.kind, .int .i64 t.num, .int .i64 t.row, os, az] 32)) (fun _ h => h.elim) (a1.mT.keep ((al_ch w6 (.cells #[.int .i64 t.kind, .int .i64 t.num, .int .i64 t.row, os, az] 32)).same _ a1.mT.lt (fun h => h))) (a1.mR.keep ((al_ch w6 (.cells #[.int .i64 t.kind, .int .i64 t.num, .int .i64 t.row, os, az] 32)).same _ a1.mR.lt (fun h => h)))
                exact a2.step c7 (fun k hk => .inr (hO.out.blk k hk)) (a2.mT.keep (c7.same _ a2.mT.lt (nB T a2.tB))) (a2.mR.keep (c7.same _ a2.mR.lt (nB R a2.rB)))
              clear hrow hgrow hblk c7 nB hO6 hOa
              refine step_append_run rfl (.tmp 119) (.tmp 127) 23 rfl rfl rfl hr7 ?_
              clear hr7
              clear hHeld
              refine hK.out _ _ ?hs (fun hHeld => ?_)
              case hs => (first | exact hS5 | trivial | ((try dsimp only); go_keep) | ((try dsimp only); simp [*, World.cell?_alloc_some, World.cell?_setCell_far, World.cell?_setCell_other]))
              clear hK K
              try simp only [Act.put, List.setIfInBounds_toArray, List.set_cons_zero, List.set_cons_succ]
              refine wpAnyH_take (i := 10) (v := ?vvb8) rfl (by kernel_rfl) (by kernel_rfl) (by kernel_rfl) (fun _ _ _ h => h) (Or.inl ⟨by rfl, ?yyb8⟩) (by assumption) ?rrb8
              case yyb8 => (intro w' hSw; (try dsimp only at hSw); go_simp; (try with_reducible rfl))
              try simp only [Act.put, List.setIfInBounds_toArray, List.set_cons_zero, List.set_cons_succ]
              refine wpAnyH_done (by kernel_rfl) ?_ _
              clear hHeld
              clear hS6 ca2 n0 n1 hS5 h5 h5d hO mT6 mR6 c6 hrb
              go_wp2
              go_roundg (m - j)
              case measure => omega
              case rel => exact ⟨j + 1, N', es ++ [(t, os, az)], rest2, by simp, by omega, by omega, hid (by simp [hes.out]), h57, hO7, hr3, hid (by rw [hout.out]; simp)⟩
            · obtain rfl : j = m := by omega
              have j1 : ¬ (j : Int) < (l.length : Int) := by rw [hll.out]; omega
              have hr1 := hto.out
              rw [List.drop_eq_nil_of_le (by rw [hll.out]; exact Nat.le_refl _)] at hr1
              obtain rfl : rest = [] := (Option.some.inj hr1).symm
              obtain ⟨ua, uc, hu8⟩ := hLs.out.sl
              subst hu8
              have hW := hLs.out.ch.keeps hlf.out (fun h => h)
              obtain ⟨l0, l1, l2, l3⟩ := flt_cells (h5.out.ch.keeps hW (fun e => by rcases e with e | e; exact hfl.out.1 e; exact hfl.out.2 e))
              have hWl : Hid (w.heap.size < Ws.heap.size) := (Array.getElem?_eq_some_iff.1 hW).1
              clear hr1 hW hto
              go_wp2
              refine bodyPost_ret (v := .tuple #[u18, flt 0 0]) (by simp [results, Tryz.results5, go_sem, l0, l1, l2, l3]) rfl ?_
              refine HE.out _ _ ⟨u18, rfl, ?_, ?_⟩
              · have e1 : out' = es.map (·.1) := by rw [hout.out]; simp
                rw [e1]
                refine OutI.tys (hO.out.ch (O := fun k => k = w.heap.size) ?_ (fun k hk => by subst hk; exact hWl.out))
                exact ((Ch.refl (fun k => k = w.heap.size) wr).setX w.heap.size 0 _ (.inl rfl)).setX w.heap.size 1 _ (.inl rfl)
              · refine Ch.setX (Ch.setX ?_ _ 0 _ (.inr (Nat.le_refl _))) _ 1 _ (.inr (Nat.le_refl _))
                exact (hc0.out.trans hLs.out.ch (fun _ h => h.elim)).trans h5.out.ch (fun k hk => .inr (by rcases hk with rfl | rfl; exact hTw.out.1; exact hTw.out.2))
end Go.Proofs.YtficijneelpmcaaGreat
