/-
  The statement's row.
-/
import Derived.Test.YtcogpcalghfghaaMXa
import Derived.Test.YtcogpcalghfghaaMMa
set_option linter.unusedVariables false
set_option linter.unusedSimpArgs false
namespace Go.Proofs.Ytcogpcalghfghaa
open Go.RowKit
open Un (Nm ins joinB Srt RV rowW rvOf app gre)

abbrev gvV (ops : Value) (more : Int) : Value := .agg #[.int .i64 0, .int .i64 0, .int .i64 0, .int .i64 0, .slice none 0 0, .slice none 0 0, .int .i64 0, ops, .int .i64 more]
/-- What variables stand for by now, in memory: of what lay in a first world nothing was turned. -/
structure FitM (wB w : World) (T R : Nat) (θ : Nat → Ty.P) (ρ : Nat → RV) : Prop where
  ch : Ch (fun _ => False) wB w
  lT : wB.heap.size ≤ T
  lR : wB.heap.size ≤ R
  ne : T ≠ R
  mt : ∃ l, MVal w T l ∧ ∀ (n : Nat) v, l.lookup (n : Int) = some v → ∃ k m r os az, v = tyV k m r os az ∧ FT wB k m r os az (θ n)
  mr : ∃ l, MVal w R l ∧ ∀ (n : Nat) v, l.lookup (n : Int) = some v → ∃ ops, v = gvV ops (ρ n).2 ∧ SV w ops (ρ n).1 ∧ ∀ k, ops.ownBlock = some k → wB.heap.size ≤ k
theorem sv_notMap {w : World} {v : Value} {l : List Nm} (h : SV w v l) {T : Nat} {es : Array MapEntry} {c : Nat} (hT : w.heap[T]? = some (.map es c)) : v.ownBlock ≠ some T := by
  obtain ⟨a, c', rfl, ⟨rfl, _⟩ | ⟨g, k, rfl, _, ⟨cs, fz, hg⟩, _⟩⟩ := h
  · intro e; cases e
  · intro e
    cases e
    rw [hT] at hg
    cases hg
theorem FitM.quiet {wB w w' : World} {T R : Nat} {θ : Nat → Ty.P} {ρ : Nat → RV} (h : FitM wB w T R θ ρ) (hc : Ch (fun _ => False) w w') : FitM wB w' T R θ ρ := by
  obtain ⟨l, h1, h2⟩ := h.mt
  obtain ⟨m, h3, h4⟩ := h.mr
  refine ⟨h.ch.trans hc (fun _ h => h.elim), h.lT, h.lR, h.ne, ⟨l, h1.keep hc (fun h => h), h2⟩, ⟨m, h3.keep hc (fun h => h), fun n v hv => ?_⟩⟩
  obtain ⟨ops, e, hs, hb⟩ := h4 n v hv
  exact ⟨ops, e, hs.keep hc (fun _ _ h => h), hb⟩
/-- A row variable's value joins. -/
theorem FitM.joinR {wB w w' : World} {T R : Nat} {θ : Nat → Ty.P} {ρ : Nat → RV} (h : FitM wB w T R θ ρ) {l : List (Int × Value)} (hl : ∀ (n : Nat) v, l.lookup (n : Int) = some v → ∃ ops, v = gvV ops (ρ n).2 ∧ SV w ops (ρ n).1 ∧ ∀ k, ops.ownBlock = some k → wB.heap.size ≤ k) {r : Nat} {ops : Value} (h0 : MVal w R l) (hm : MVal w' R (l ++ [((r : Int), gvV ops (ρ r).2)])) (hc : Ch (fun j => j = R) w w') (hs : SV w ops (ρ r).1) (hb : ∀ k, ops.ownBlock = some k → wB.heap.size ≤ k) : FitM wB w' T R θ ρ := by
  obtain ⟨lt, h1, h2⟩ := h.mt
  obtain ⟨es, c, hR, _⟩ := h0
  refine ⟨h.ch.trans hc (fun k hk => .inr (by subst hk; exact h.lR)), h.lT, h.lR, h.ne, ⟨lt, h1.keep hc h.ne, h2⟩, ⟨_, hm, fun n v hv => ?_⟩⟩
  rw [List.lookup_append] at hv
  cases hx : l.lookup (n : Int) with
  | some u =>
    rw [hx] at hv
    obtain rfl : u = v := by simpa using hv
    obtain ⟨o, e, q1, q2⟩ := hl n u hx
    exact ⟨o, e, q1.keep hc (fun k hk e => sv_notMap q1 hR (by rw [hk, e])), q2⟩
  | none =>
    rw [hx] at hv
    by_cases e : (n : Int) = (r : Int)
    · obtain rfl : n = r := by omega
      obtain rfl : gvV ops (ρ n).2 = v := by simpa [List.lookup] using hv
      exact ⟨ops, rfl, hs.keep hc (fun k hk e => sv_notMap hs hR (by rw [hk, e])), hb⟩
    · have e2 : ((n : Int) == (r : Int)) = false := by simpa using e
      simp [List.lookup, e2] at hv

/-- The boxes of row. -/
structure RwS (w wr : World) (fb tb ub T R : Nat) (kt nt rt : Int) (ot at' : Value) (ku nu ru : Int) (ou au : Value) : Prop where
  ch : Ch (fun _ => False) w wr
  f : wr.heap[fb]? = some (.cells #[.map (some T), .map (some R)] 41 (0, 0))
  t : wr.heap[tb]? = some (tyB kt nt rt ot at')
  u : wr.heap[ub]? = some (tyB ku nu ru ou au)
theorem RwS.quiet {w wr w' : World} {fb tb ub T R : Nat} {kt nt rt ku nu ru : Int} {ot at' ou au : Value} (h : RwS w wr fb tb ub T R kt nt rt ot at' ku nu ru ou au) (hc : Ch (fun _ => False) wr w') : RwS w w' fb tb ub T R kt nt rt ot at' ku nu ru ou au :=
  ⟨h.ch.trans hc (fun _ h => h.elim), hc.keeps h.f (fun h => h), hc.keeps h.t (fun h => h), hc.keeps h.u (fun h => h)⟩
theorem RwS.cells {w wr : World} {fb tb ub T R : Nat} {kt nt rt ku nu ru : Int} {ot at' ou au : Value} (h : RwS w wr fb tb ub T R kt nt rt ot at' ku nu ru ou au) :
    wr.cell? ⟨fb, 0, none⟩ = some (.map (some T)) ∧ wr.cell? ⟨fb, 1, none⟩ = some (.map (some R)) ∧ wr.cell? ⟨tb, 2, none⟩ = some (.int .i64 rt) ∧ wr.cell? ⟨tb, 3, none⟩ = some ot ∧ wr.cell? ⟨ub, 2, none⟩ = some (.int .i64 ru) ∧ wr.cell? ⟨ub, 3, none⟩ = some ou := by
  refine ⟨by rw [cellB h.f]; rfl, by rw [cellB h.f]; rfl, by rw [cellB h.t]; rfl, by rw [cellB h.t]; rfl, by rw [cellB h.u]; rfl, by rw [cellB h.u]; rfl⟩

set_option maxRecDepth 100000 in
set_option maxHeartbeats 16000000 in
theorem row_fits {wB w : World} {T R : Nat} {θ : Nat → Ty.P} {ρ : Nat → RV} (hM : FitM wB w T R θ ρ) (hρ : ∀ r, Srt (ρ r).1) {kt nt ku nu : Int} {o o' : List Nm} {r : Nat} {ost azt osu azu : Value} (ho : Srt o) (hl : o.length ≤ 300) (hl' : o'.length ≤ 300) (hr : r ≤ 1000000000)
    (hOt : OpsV wB ost o) (hOu : OpsV wB osu o') (e1 : o' = (rowW o ρ (rvOf r)).1) {ru : Nat} (e2 : ru = (rowW o ρ (rvOf r)).2) (hzt : isSl azt) (hzu : isSl azu) :
    Calls Try.prog 15 #[.agg #[.map (some T), .map (some R)], tyV kt nt r ost azt, tyV ku nu ru osu azu] w fun e w' => e = .returned (.bool true) ∧ FitM wB w' T R θ ρ ∧ Ch (fun k => k = T ∨ k = R) w w' := by
  obtain ⟨oa, oc, rfl, hO1, hO2⟩ := id hOt
  obtain ⟨pa, pc, rfl, hP1, hP2⟩ := id hOu
  obtain ⟨za, zn, zc, rfl⟩ := hzt
  obtain ⟨ya, yn, yc, rfl⟩ := hzu
  have hgr := Un.gre_row (o := o) (r := r) ho hρ
  rw [← e1] at hgr
  have hch := ((al_ch w (.cells #[.map (some T), .map (some R)] 41)).trans (al_ch _ (tyB kt nt r (.slice oa o.length oc) (.slice za zn zc))) (fun _ h => h.elim)).trans (al_ch _ (tyB ku nu ru (.slice pa o'.length pc) (.slice ya yn yc))) (fun _ h => h.elim)
  have hB0 : RwS w (((w.alloc (.cells #[.map (some T), .map (some R)] 41)).alloc (tyB kt nt r (.slice oa o.length oc) (.slice za zn zc))).alloc (tyB ku nu ru (.slice pa o'.length pc) (.slice ya yn yc))) w.heap.size (w.heap.size + 1) (w.heap.size + 1 + 1) T R kt nt r (.slice oa o.length oc) (.slice za zn zc) ku nu ru (.slice pa o'.length pc) (.slice ya yn yc) := by
    have b1 := World.alloc_heap_new w (.cells #[.map (some T), .map (some R)] 41)
    have b2 := World.alloc_heap_new (w.alloc (.cells #[.map (some T), .map (some R)] 41)) (tyB kt nt r (.slice oa o.length oc) (.slice za zn zc))
    have b3 := World.alloc_heap_new ((w.alloc (.cells #[.map (some T), .map (some R)] 41)).alloc (tyB kt nt r (.slice oa o.length oc) (.slice za zn zc))) (tyB ku nu ru (.slice pa o'.length pc) (.slice ya yn yc))
    rw [World.size_alloc] at b2
    rw [World.size_alloc, World.size_alloc] at b3
    exact ⟨hch, blk_alloc (blk_alloc b1), blk_alloc b2, b3⟩
  replace hB0 := hid hB0
  replace hM := hid hM
  replace hO1 := hid hO1
  replace hO2 := hid hO2
  replace hP1 := hid hP1
  replace hP2 := hid hP2
  replace hOt := hid hOt
  replace hOu := hid hOu
  replace hgr := hid hgr
  replace e1 := hid e1
  replace e2 := hid e2
  replace hρ := hid hρ
  clear hch ho
  go_enter Try.func15, Try.ntmps15
  go_wp2
  generalize ((w.alloc (.cells #[.map (some T), .map (some R)] 41)).alloc (tyB kt nt r (.slice oa o.length oc) (.slice za zn zc))).alloc (tyB ku nu ru (.slice pa o'.length pc) (.slice ya yn yc)) = W1 at *
  generalize w.heap.size + 1 + 1 = ub at *
  generalize w.heap.size + 1 = tb at *
  generalize w.heap.size = fb at *
  have hF0 : Hid (Fresh W1 W1 (.slice none 0 0) []) := Fresh.nil W1
  go_loopg [7, 8, 9] (o'.length + 1) (fun q v7 v8 v9 wr => ∃ (i j : Nat) (ml : List Nm), v8 = .int .i64 (i : Nat) ∧ v9 = .int .i64 (j : Nat) ∧ i ≤ o.length ∧ j ≤ o'.length ∧ q = o'.length + 1 - j ∧ Hid (ml.length ≤ j) ∧ Hid (Fresh W1 wr v7 ml) ∧ Hid (gre o o' = ((gre (o.drop i) (o'.drop j)).1, ml ++ (gre (o.drop i) (o'.drop j)).2)))
  case atStart => exact ⟨0, 0, [], rfl, rfl, by omega, by omega, by omega, hid (Nat.le_refl _), hF0, hid (by simp)⟩
  case round =>
    clear hF0
    obtain ⟨i, j, ml, rfl, rfl, hi, hj, rfl, hml, hF, hG⟩ := hrel
    obtain ⟨ma, mc, hme, -⟩ := row_slice hF.out.1
    rename_i v7
    subst hme
    have hB := hid (hB0.out.quiet hF.out.2.1)
    obtain ⟨c0f, c1f, c2t, c3t, c2u, c3u⟩ := hB.out.cells
    have hcw : Hid (Ch (fun _ => False) wB wr) := hM.out.ch.trans hB.out.ch (fun _ h => h.elim)
    by_cases e : j < o'.length
    · have j0 : (0 : Int) ≤ j := by omega
      have j1 : (j : Int) < (o'.length : Int) := by omega
      have i0 : (0 : Int) ≤ i := by omega
      have hwj : IntKind.i64.wrap ((j : Int) + 1) = (j : Int) + 1 := IntWalk.i64_in _ (by omega)
      have hwi : IntKind.i64.wrap ((i : Int) + 1) = (i : Int) + 1 := IntWalk.i64_in _ (by omega)
      obtain ⟨pg, pq, rfl, hpg⟩ := hP2.out (fun h => by rw [h] at e; cases e)
      have su0 := cell_keeps hcw.out (hpg j e)
      have hdj : o'.drop j = o'[j] :: o'.drop (j + 1) := List.drop_eq_getElem_cons e
      obtain ⟨s, hs⟩ : ∃ s, o'[j] = s := ⟨_, rfl⟩
      rw [hs] at hdj
      have su : wr.cell? ⟨pg, pq + j, none⟩ = some (str s) := by rw [← hs]; exact su0
      clear su0 hpg
      by_cases ei : i < o.length
      · have i1 : (i : Int) < (o.length : Int) := by omega
        obtain ⟨og, oq, rfl, hog⟩ := hO2.out (fun h => by rw [h] at ei; cases ei)
        have st0 := cell_keeps hcw.out (hog i ei)
        have hdi : o.drop i = o[i] :: o.drop (i + 1) := List.drop_eq_getElem_cons ei
        obtain ⟨x, hx⟩ : ∃ x, o[i] = x := ⟨_, rfl⟩
        rw [hx] at hdi
        have st : wr.cell? ⟨og, oq + i, none⟩ = some (str x) := by rw [← hx]; exact st0
        clear st0 hog
        by_cases es : x = s
        · subst es
          have hG2 : Hid (gre o o' = ((gre (o.drop (i + 1)) (o'.drop (j + 1))).1, ml ++ (gre (o.drop (i + 1)) (o'.drop (j + 1))).2)) := by
            have h := hG.out
            rw [hdi, hdj] at h
            show _ = _
            simpa [gre] using h
          clear hdj hdi hG hs hx
          go_wp2_with (go_quiet (fail))
          go_roundg (o'.length - j)
          case measure => omega
          case rel => exact ⟨i + 1, j + 1, ml, by simp, by simp, by omega, by omega, by omega, hid (by have := hml.out; omega), hid (hF.out.quiet ((Ch.refl (fun _ => False) wr).dn nq)), hG2⟩
        · have hG2 : Hid (gre o o' = ((gre (o.drop i) (o'.drop (j + 1))).1, (ml ++ [s]) ++ (gre (o.drop i) (o'.drop (j + 1))).2)) := by
            have h := hG.out
            rw [hdi, hdj] at h
            rw [hdi]
            show _ = _
            simpa [gre, es] using h
          clear hdj hdi hG hs hx
          go_upto_region 8 with (go_quiet (fail))
          · rename_i hq
            exact absurd (by simpa using hq) es
          have hcq : Ch (fun _ => False) wr (wr.drewN nq) := (Ch.refl (fun _ => False) wr).dn nq
          have hB6 := hid (hB.out.quiet hcq)
          have hF6 := hid (hF.out.quiet hcq)
          have su6 := cell_keeps hcq su
          clear hB hF su c0f c1f c2t c3t c2u c3u hcw hcq st
          generalize wr.drewN nq = W6 at *
          obtain ⟨c0f, c1f, c2t, c3t, c2u, c3u⟩ := hB6.out.cells
          have hF7 := hF6.out.quiet (al_ch W6 (.cells #[str s] 9))
          have hml2 := hml.out
          go_wp2_with (at_builtin; go_must (refine list_append_sv rfl (.tmp 40) (.tmp 46) rfl (l := [s]) rfl rfl hF7.1 (one_sv W6 s) (by simp <;> omega) ?_); intro v' w1 hrow1 hgrow1 hblk1; have hF8 := hid (hF7.more hrow1 hgrow1 hblk1); clear hrow1 hgrow1 hblk1 hF7)
          go_roundg (o'.length - j)
          case measure => omega
          case rel => exact ⟨i, j + 1, ml ++ [s], rfl, by simp, by omega, by omega, by omega, hid (by simp; omega), hF8, hG2⟩
      · have hio : i = o.length := by omega
        subst hio
        have i1 : ¬ (o.length : Int) < (o.length : Int) := by omega
        have hG2 : Hid (gre o o' = ((gre (o.drop o.length) (o'.drop (j + 1))).1, (ml ++ [s]) ++ (gre (o.drop o.length) (o'.drop (j + 1))).2)) := by
          have h := hG.out
          rw [hdj] at h
          have hdn : o.drop o.length = [] := List.drop_eq_nil_of_le (by omega)
          rw [hdn] at h ⊢
          show _ = _
          simpa [gre, Un.gre_nil] using h
        clear hdj hG hs
        go_upto_region 8 with (go_quiet (fail))
        have hcq : Ch (fun _ => False) wr (wr.drewN nq) := (Ch.refl (fun _ => False) wr).dn nq
        have hB6 := hid (hB.out.quiet hcq)
        have hF6 := hid (hF.out.quiet hcq)
        have su6 := cell_keeps hcq su
        clear hB hF su c0f c1f c2t c3t c2u c3u hcw hcq
        generalize wr.drewN nq = W6 at *
        obtain ⟨c0f, c1f, c2t, c3t, c2u, c3u⟩ := hB6.out.cells
        have hF7 := hF6.out.quiet (al_ch W6 (.cells #[str s] 9))
        have hml2 := hml.out
        go_wp2_with (at_builtin; go_must (refine list_append_sv rfl (.tmp 40) (.tmp 46) rfl (l := [s]) rfl rfl hF7.1 (one_sv W6 s) (by simp <;> omega) ?_); intro v' w1 hrow1 hgrow1 hblk1; have hF8 := hid (hF7.more hrow1 hgrow1 hblk1); clear hrow1 hgrow1 hblk1 hF7)
        go_roundg (o'.length - j)
        case measure => omega
        case rel => exact ⟨o.length, j + 1, ml ++ [s], rfl, by simp, by omega, by omega, by omega, hid (by simp; omega), hF8, hG2⟩
    · have hjo : j = o'.length := by omega
      subst hjo
      have j1 : ¬ (o'.length : Int) < (o'.length : Int) := by omega
      have hG0 := hG.out
      rw [List.drop_length, hgr.out] at hG0
      obtain ⟨hd, hmm⟩ : o.drop i = [] ∧ ml = if r = 0 then [] else (ρ r).1 := by
        have h1 := congrArg Prod.fst hG0
        have h2 := congrArg Prod.snd hG0
        simp only [gre, List.append_nil] at h1 h2
        exact ⟨h1.symm, h2.symm⟩
      have hio : i = o.length := by
        have := congrArg List.length hd
        simp at this
        omega
      subst hio
      have i1 : ¬ (o.length : Int) < (o.length : Int) := by omega
      clear hG hG0 hd hgr
      by_cases er : r = 0
      · rw [if_pos er] at hmm
        subst hmm
        have hru : ru = 0 := by
          rw [e2.out, er]
          rfl
        subst hru er
        go_wp2
        go_ret
        exact ⟨rfl, hM.out.quiet hB.out.ch, hB.out.ch.mono (fun _ h => h.elim)⟩
      · rw [if_neg er] at hmm
        subst hmm
        have hru : ru = (ρ r).2 := by
          rw [e2.out]
          unfold rvOf
          rw [if_neg er]
          rfl
        subst hru
        have er' : ¬ (r : Int) = 0 := by omega
        have hMr := hid (hM.out.quiet hB.out.ch)
        obtain ⟨l, h3, h4⟩ := hMr.out.mr
        have hlk := run_lookV und_ig zero_given h3 (r : Int)
        cases hx : l.lookup (r : Int) with
        | none =>
          rw [hx] at hlk
          simp only [Option.getD_none, Option.isSome_none] at hlk
          replace hx := hid hx
          replace h3 := hid h3
          replace h4 := hid h4
          replace er := hid er
          go_upto_region 14 with (fail)
          have ha := al_ch wr (.cells #[.int .i64 0, .int .i64 0, .int .i64 0, .int .i64 0, .slice none 0 0, .slice none 0 0, .int .i64 0, .slice none 0 0, .int .i64 0] 58)
          have hB7 := hid (hB.out.quiet ha)
          have hF7 := hid (hF.out.quiet ha)
          have hM7 := hid (hMr.out.quiet ha)
          have h37 := hid (h3.out.keep ha (fun h => h))
          have h47 : Hid (∀ (n : Nat) v, l.lookup (n : Int) = some v → ∃ ops, v = gvV ops (ρ n).2 ∧ SV (wr.alloc (.cells #[.int .i64 0, .int .i64 0, .int .i64 0, .int .i64 0, .slice none 0 0, .slice none 0 0, .int .i64 0, .slice none 0 0, .int .i64 0] 58)) ops (ρ n).1 ∧ ∀ k, ops.ownBlock = some k → wB.heap.size ≤ k) := fun n v hv => by
            obtain ⟨ops, e, q1, q2⟩ := h4.out n v hv
            exact ⟨ops, e, q1.keep ha (fun _ _ h => h), q2⟩
          clear hB hF hMr h3 h4 hlk c0f c1f c2t c3t c2u c3u hcw ha
          generalize wr.alloc (.cells #[.int .i64 0, .int .i64 0, .int .i64 0, .int .i64 0, .slice none 0 0, .slice none 0 0, .int .i64 0, .slice none 0 0, .int .i64 0] 58) = W7 at *
          obtain ⟨c0f, c1f, c2t, c3t, c2u, c3u⟩ := hB7.out.cells
          obtain ⟨w8, hu, hm8, hc8⟩ := run_updV und_ig h37.out hx.out (gvV (.slice ma (ρ r).1.length mc) (ρ r).2)
          have hfin : Hid (FitM wB w8 T R θ ρ) := hM7.out.joinR h47.out h37.out hm8 hc8 hF7.out.sv (fun k hk => by
            have h1 := hF7.out.2.2 k hk
            have h2 := hM.out.ch.size
            have h3 := hB0.out.ch.size
            omega)
          have hcf : Hid (Ch (fun k => k = T ∨ k = R) w w8) := (hB7.out.ch.mono (fun _ h => h.elim)).trans hc8 (fun k hk => .inl (.inr hk))
          clear hm8 hc8 h37 h47 hM7 hF7
          go_wp2
          go_ret
          exact ⟨rfl, hfin.out, hcf.out⟩
        | some v =>
          rw [hx] at hlk
          simp only [Option.getD_some, Option.isSome_some] at hlk
          obtain ⟨ops, rfl, hops, -⟩ := h4 r v hx
          obtain ⟨oa2, oc2, hve, -⟩ := id hops
          subst hve
          replace er := hid er
          clear h3 h4 hx
          go_upto_region 14 with (fail)
          have ha := al_ch wr (.cells #[.int .i64 0, .int .i64 0, .int .i64 0, .int .i64 0, .slice none 0 0, .slice none 0 0, .int .i64 0, .slice oa2 (ρ r).1.length oc2, .int .i64 (ρ r).2] 58)
          have hB7 := hid (hB.out.quiet ha)
          have hF7 := hid (hF.out.quiet ha)
          have hM7 := hid (hMr.out.quiet ha)
          have hO7 := hid (hops.keep ha (fun _ _ h => h))
          have hg7 : Hid ((wr.alloc (.cells #[.int .i64 0, .int .i64 0, .int .i64 0, .int .i64 0, .slice none 0 0, .slice none 0 0, .int .i64 0, .slice oa2 (ρ r).1.length oc2, .int .i64 (ρ r).2] 58)).heap[wr.heap.size]? = some (.cells #[.int .i64 0, .int .i64 0, .int .i64 0, .int .i64 0, .slice none 0 0, .slice none 0 0, .int .i64 0, .slice oa2 (ρ r).1.length oc2, .int .i64 (ρ r).2] 58 (0, 0))) := World.alloc_heap_new wr _
          clear hB hF hMr hlk hops c0f c1f c2t c3t c2u c3u hcw ha
          generalize wr.alloc (.cells #[.int .i64 0, .int .i64 0, .int .i64 0, .int .i64 0, .slice none 0 0, .slice none 0 0, .int .i64 0, .slice oa2 (ρ r).1.length oc2, .int .i64 (ρ r).2] 58) = W7 at *
          generalize wr.heap.size = gb at *
          obtain ⟨c0f, c1f, c2t, c3t, c2u, c3u⟩ := hB7.out.cells
          have g7 : W7.cell? ⟨gb, 7, none⟩ = some (.slice oa2 (ρ r).1.length oc2) := by rw [cellB hg7.out]; rfl
          have g8 : W7.cell? ⟨gb, 8, none⟩ = some (.int .i64 (ρ r).2) := by rw [cellB hg7.out]; rfl
          have hl2 : (ρ r).1.length ≤ 300 := by have := hml.out; omega
          go_wp2
          go_loopg [12] ((ρ r).1.length + 1) (fun q v12 wr => ∃ (i : Nat), v12 = .int .i64 (i : Nat) ∧ i ≤ (ρ r).1.length ∧ q = (ρ r).1.length + 1 - i ∧ Hid (Ch (fun _ => False) W7 wr))
          case atStart => exact ⟨0, rfl, by omega, by omega, Ch.refl _ _⟩
          case round =>
            obtain ⟨i, rfl, hi, rfl, hC⟩ := hrel
            have g7' := cell_keeps hC.out g7
            by_cases e : i < (ρ r).1.length
            · have i0 : (0 : Int) ≤ i := by omega
              have i1 : (i : Int) < ((ρ r).1.length : Int) := by omega
              have hwi : IntKind.i64.wrap ((i : Int) + 1) = (i : Int) + 1 := IntWalk.i64_in _ (by omega)
              obtain ⟨x, hx⟩ : ∃ x, (ρ r).1[i]? = some x := ⟨_, List.getElem?_eq_getElem e⟩
              have s1 := hO7.out.keep hC.out (fun _ _ h => h)
              have s2 := hF7.out.sv.keep hC.out (fun _ _ h => h)
              obtain ⟨a1, k1, e1', ⟨_, h, _⟩ | ⟨y1, z1, rfl, _, _, hc1⟩⟩ := s1
              · rw [h] at e; cases e
              obtain ⟨a2, k2, e2', ⟨_, h, _⟩ | ⟨y2, z2, rfl, _, _, hc2⟩⟩ := s2
              · rw [h] at e; cases e
              simp only [Value.slice.injEq, true_and] at e1' e2'
              obtain ⟨rfl, rfl⟩ := e1'
              obtain ⟨rfl, rfl⟩ := e2'
              have d1 := hc1 i x hx
              have d2 := hc2 i x hx
              clear hc1 hc2 hx
              go_wp2_with (go_quiet (fail))
              go_roundg ((ρ r).1.length - i)
              case measure => omega
              case rel => exact ⟨i + 1, by simp, by omega, by omega, hid (hC.out.trans ((Ch.refl (fun _ => False) wr).dn nq) (fun _ h => h.elim))⟩
            · have hin : i = (ρ r).1.length := by omega
              subst hin
              have i1 : ¬ ((ρ r).1.length : Int) < ((ρ r).1.length : Int) := by omega
              go_wp2
              go_ret
              exact ⟨rfl, hM7.out.quiet hC.out, (hB7.out.ch.trans hC.out (fun _ h => h.elim)).mono (fun _ h => h.elim)⟩
end Go.Proofs.Ytcogpcalghfghaa
