/-
  The statement's fits.
-/
import Derived.Test.YtcogpcalghfghaaXd
set_option linter.unusedVariables false
set_option linter.unusedSimpArgs false
namespace Go.Proofs.Ytcogpcalghfghaa
open Go.RowKit
open Un (Nm ins joinB Srt RV rowW rvOf app gre)

theorem app_gen {θ : Nat → Ty.P} {ρ : Nat → RV} {t : Ty.P} (h0 : t.kind ≠ 0) : (app θ ρ t).kind = t.kind ∧ kidsT (app θ ρ t) = (kidsT t).map (app θ ρ) ∧ (app θ ρ t).num = t.num := by
  cases t with
  | var n => exact absurd rfl h0
  | _ => exact ⟨rfl, rfl, rfl⟩
/-- A type variable's value joins. -/
theorem FitM.joinT {wB w w' : World} {T R : Nat} {θ : Nat → Ty.P} {ρ : Nat → RV} (h : FitM wB w T R θ ρ) {l : List (Int × Value)} (hl : ∀ (n : Nat) v, l.lookup (n : Int) = some v → ∃ k m r os az, v = tyV k m r os az ∧ FT wB k m r os az (θ n)) {n : Nat} {k m r : Int} {os az : Value} (h0 : MVal w T l) (hm : MVal w' T (l ++ [((n : Int), tyV k m r os az)])) (hc : Ch (fun j => j = T) w w') (hf : FT wB k m r os az (θ n)) : FitM wB w' T R θ ρ := by
  obtain ⟨lr, h1, h2⟩ := h.mr
  obtain ⟨es, c, hT, _⟩ := h0
  refine ⟨h.ch.trans hc (fun k hk => .inr (by subst hk; exact h.lT)), h.lT, h.lR, h.ne, ⟨_, hm, fun q v hv => ?_⟩, ⟨lr, h1.keep hc (fun e => h.ne e.symm), fun q v hv => ?_⟩⟩
  · rw [List.lookup_append] at hv
    cases hx : l.lookup (q : Int) with
    | some u =>
      rw [hx] at hv
      obtain rfl : u = v := by simpa using hv
      exact hl q u hx
    | none =>
      rw [hx] at hv
      by_cases e : (q : Int) = (n : Int)
      · obtain rfl : q = n := by omega
        obtain rfl : tyV k m r os az = v := by simpa [List.lookup] using hv
        exact ⟨_, _, _, _, _, rfl, hf⟩
      · have e2 : ((q : Int) == (n : Int)) = false := by simpa using e
        simp [List.lookup, e2] at hv
  · obtain ⟨ops, e, q1, q2⟩ := h2 q v hv
    exact ⟨ops, e, q1.keep hc (fun k hk e => sv_notMap q1 hT (by rw [hk, e])), q2⟩
def FitOK (t : Ty.P) : Prop := ∀ {wB w : World} {T R : Nat} {θ : Nat → Ty.P} {ρ : Nat → RV} {u : Ty.P} {os az os' az' : Value}, FitM wB w T R θ ρ → (∀ r, Srt (ρ r).1) → t.ok → t.parts ≤ 300 → u.parts ≤ 300 → IsT wB t os az → IsT wB u os' az' → u = app θ ρ t →
  Calls Try.prog 8 #[.agg #[.map (some T), .map (some R)], tyV t.kind t.num t.row os az, tyV u.kind u.num u.row os' az'] w fun e w' => e = .returned (.bool true) ∧ FitM wB w' T R θ ρ ∧ Ch (fun k => k = T ∨ k = R) w w'
/-- The boxes of fits. -/
structure FtS (w wr : World) (fb tb ub T R : Nat) (kt nt rt : Int) (ot at' : Value) (ku nu ru : Int) (ou au : Value) : Prop where
  ch : Ch (fun k => k = T ∨ k = R) w wr
  f : wr.heap[fb]? = some (.cells #[.map (some T), .map (some R)] 41 (0, 0))
  t : wr.heap[tb]? = some (tyB kt nt rt ot at')
  u : wr.heap[ub]? = some (tyB ku nu ru ou au)
  n1 : ¬ (fb = T ∨ fb = R)
  n2 : ¬ (tb = T ∨ tb = R)
  n3 : ¬ (ub = T ∨ ub = R)
theorem FtS.next {w wr w' : World} {fb tb ub T R : Nat} {kt nt rt ku nu ru : Int} {ot at' ou au : Value} (h : FtS w wr fb tb ub T R kt nt rt ot at' ku nu ru ou au) (hc : Ch (fun k => k = T ∨ k = R) wr w') : FtS w w' fb tb ub T R kt nt rt ot at' ku nu ru ou au :=
  ⟨h.ch.trans hc (fun _ h => .inl h), hc.keeps h.f h.n1, hc.keeps h.t h.n2, hc.keeps h.u h.n3, h.n1, h.n2, h.n3⟩
theorem FtS.start {wB w : World} {T R : Nat} {θ : Nat → Ty.P} {ρ : Nat → RV} (hM : FitM wB w T R θ ρ) (kt nt rt ku nu ru : Int) (ot at' ou au : Value) :
    FtS w (((w.alloc (.cells #[.map (some T), .map (some R)] 41)).alloc (tyB kt nt rt ot at')).alloc (tyB ku nu ru ou au)) w.heap.size (w.heap.size + 1) (w.heap.size + 1 + 1) T R kt nt rt ot at' ku nu ru ou au := by
  have b1 := World.alloc_heap_new w (.cells #[.map (some T), .map (some R)] 41)
  have b2 := World.alloc_heap_new (w.alloc (.cells #[.map (some T), .map (some R)] 41)) (tyB kt nt rt ot at')
  have b3 := World.alloc_heap_new ((w.alloc (.cells #[.map (some T), .map (some R)] 41)).alloc (tyB kt nt rt ot at')) (tyB ku nu ru ou au)
  rw [World.size_alloc] at b2
  rw [World.size_alloc, World.size_alloc] at b3
  have hch := ((al_ch w (.cells #[.map (some T), .map (some R)] 41)).trans (al_ch _ (tyB kt nt rt ot at')) (fun _ h => h.elim)).trans (al_ch _ (tyB ku nu ru ou au)) (fun _ h => h.elim)
  obtain ⟨_, m1, _⟩ := hM.mt
  obtain ⟨_, m2, _⟩ := hM.mr
  have l1 := m1.lt
  have l2 := m2.lt
  exact ⟨hch.mono (fun _ h => h.elim), blk_alloc (blk_alloc b1), blk_alloc b2, b3, by omega, by omega, by omega⟩
theorem FtS.cells {w wr : World} {fb tb ub T R : Nat} {kt nt rt ku nu ru : Int} {ot at' ou au : Value} (h : FtS w wr fb tb ub T R kt nt rt ot at' ku nu ru ou au) :
    wr.cell? ⟨fb, 0, none⟩ = some (.map (some T)) ∧ wr.cell? ⟨fb, 1, none⟩ = some (.map (some R)) ∧ (wr.cell? ⟨tb, 0, none⟩ = some (.int .i64 kt) ∧ wr.cell? ⟨tb, 1, none⟩ = some (.int .i64 nt) ∧ wr.cell? ⟨tb, 2, none⟩ = some (.int .i64 rt) ∧ wr.cell? ⟨tb, 3, none⟩ = some ot ∧ wr.cell? ⟨tb, 4, none⟩ = some at') ∧ wr.cell? ⟨ub, 0, none⟩ = some (.int .i64 ku) ∧ wr.cell? ⟨ub, 1, none⟩ = some (.int .i64 nu) ∧ wr.cell? ⟨ub, 2, none⟩ = some (.int .i64 ru) ∧ wr.cell? ⟨ub, 3, none⟩ = some ou ∧ wr.cell? ⟨ub, 4, none⟩ = some au :=
  ⟨by rw [cellB h.f]; rfl, by rw [cellB h.f]; rfl, (ty_cells h.t).1, (ty_cells h.u).1⟩

set_option maxRecDepth 100000 in
set_option maxHeartbeats 16000000 in
theorem fits_var (n : Nat) : FitOK (.var n) := by
  intro wB w T R θ ρ u os az os' az' hM hρ hok _ hup hi hiu hu
  obtain ⟨qa, qc, qb, ql, qd, rfl, rfl, -⟩ := hi.slices
  obtain ⟨ra, rc, rb, rl, rd, rfl, rfl, -⟩ := hiu.slices
  clear hi
  have hth : u = θ n := hu
  have e0 : ((Ty.P.var n).kind : Int) = 0 := rfl
  have e1 : ((Ty.P.var n).num : Int) = n := rfl
  have e2 : ((Ty.P.var n).row : Int) = 0 := rfl
  rw [e0, e1, e2]
  clear e0 e1 e2 hu
  generalize (Ty.P.var n).ops.length = qo at *
  have hS0 := hid (FtS.start hM 0 n 0 u.kind u.num u.row (.slice qa qo qc) (.slice qb ql qd) (.slice ra u.ops.length rc) (.slice rb rl rd))
  have hFu : Hid (FT wB u.kind u.num u.row (.slice ra u.ops.length rc) (.slice rb rl rd) (θ n)) := ⟨by rw [hth], by rw [hth], by rw [hth], by rw [← hth]; exact hiu⟩
  have hRu : Hid (Rdd wB 300 (.slice ra u.ops.length rc) (.slice rb rl rd)) := hiu.rdd hup (by omega)
  have hup' : Hid ((θ n).parts ≤ 300) := by rw [← hth]; exact hup
  have hMq : Hid (FitM wB (((w.alloc (.cells #[.map (some T), .map (some R)] 41)).alloc (tyB 0 n 0 (.slice qa qo qc) (.slice qb ql qd))).alloc (tyB u.kind u.num u.row (.slice ra u.ops.length rc) (.slice rb rl rd))) T R θ ρ) := hM.quiet (((al_ch w _).trans (al_ch _ _) (fun _ h => h.elim)).trans (al_ch _ _) (fun _ h => h.elim))
  clear hiu hup
  replace hth := hid hth
  replace hρ := hid hρ
  replace hM := hid hM
  obtain ⟨l, h3, h4⟩ := hMq.out.mt
  have hlk := run_lookV und_it zero_type h3 (n : Int)
  cases hx : l.lookup (n : Int) with
  | none =>
    rw [hx] at hlk
    simp only [Option.getD_none, Option.isSome_none] at hlk
    replace hx := hid hx
    replace h3 := hid h3
    replace h4 := hid h4
    go_enter Try.func8, Try.ntmps8
    go_upto_region 1 with (fail)
    generalize ((w.alloc (.cells #[.map (some T), .map (some R)] 41)).alloc (tyB 0 n 0 (.slice qa qo qc) (.slice qb ql qd))).alloc (tyB u.kind u.num u.row (.slice ra u.ops.length rc) (.slice rb rl rd)) = W1 at *
    generalize w.heap.size + 1 + 1 = ub at *
    generalize w.heap.size + 1 = tb at *
    generalize w.heap.size = fb at *
    obtain ⟨c0f, c1f, ⟨t0, t1, t2, t3, t4⟩, u0, u1, u2, u3, u4⟩ := hS0.out.cells
    go_upto_region 3 with (fail)
    have ha := al_ch W1 (tyB 0 0 0 (.slice none 0 0) (.slice none 0 0))
    have hS7 := hid (hS0.out.next (ha.mono (fun _ h => h.elim)))
    have hM7 := hid (hMq.out.quiet ha)
    have h37 := hid (h3.out.keep ha (fun h => h))
    clear hS0 hMq hlk h3 c0f c1f t0 t1 t2 t3 t4 u0 u1 u2 u3 u4 ha
    generalize W1.alloc (tyB 0 0 0 (.slice none 0 0) (.slice none 0 0)) = W7 at *
    obtain ⟨c0f, c1f, ⟨t0, t1, t2, t3, t4⟩, u0, u1, u2, u3, u4⟩ := hS7.out.cells
    obtain ⟨w8, hu8, hm8, hc8⟩ := run_updV und_it h37.out hx.out (tyV u.kind u.num u.row (.slice ra u.ops.length rc) (.slice rb rl rd))
    have hfin : Hid (FitM wB w8 T R θ ρ) := hM7.out.joinT h4.out h37.out hm8 hc8 hFu.out
    have hcf : Hid (Ch (fun k => k = T ∨ k = R) w w8) := hS7.out.ch.trans hc8 (fun k hk => .inl (.inl hk))
    clear hm8 hc8 h37 hM7 h4
    go_wp2
    go_ret
    exact ⟨rfl, hfin.out, hcf.out⟩
  | some v =>
    rw [hx] at hlk
    simp only [Option.getD_some, Option.isSome_some] at hlk
    obtain ⟨k, m, r, os2, az2, rfl, hFo⟩ := h4 n v hx
    have hRo := hFo.2.2.2.rdd (n := 300) hup'.out (by have := hup'.out; omega)
    obtain ⟨ya, yc, yb, yl, yd, rfl, rfl, -⟩ := hFo.2.2.2.slices
    generalize (θ n).ops.length = yo at *
    replace hFo := hid hFo
    replace hRo := hid hRo
    clear h3 h4 hx
    go_enter Try.func8, Try.ntmps8
    go_upto_region 1 with (fail)
    generalize ((w.alloc (.cells #[.map (some T), .map (some R)] 41)).alloc (tyB 0 n 0 (.slice qa qo qc) (.slice qb ql qd))).alloc (tyB u.kind u.num u.row (.slice ra u.ops.length rc) (.slice rb rl rd)) = W1 at *
    generalize w.heap.size + 1 + 1 = ub at *
    generalize w.heap.size + 1 = tb at *
    generalize w.heap.size = fb at *
    obtain ⟨c0f, c1f, ⟨t0, t1, t2, t3, t4⟩, u0, u1, u2, u3, u4⟩ := hS0.out.cells
    go_upto_region 3 with (fail)
    have ha := al_ch W1 (tyB k m r (.slice ya yo yc) (.slice yb yl yd))
    have hS7 := hid (hS0.out.next (ha.mono (fun _ h => h.elim)))
    have hM7 := hid (hMq.out.quiet ha)
    have hg7 := (ty_cells (World.alloc_heap_new W1 (tyB k m r (.slice ya yo yc) (.slice yb yl yd)))).1
    clear hS0 hMq hlk c0f c1f t0 t1 t2 t3 t4 u0 u1 u2 u3 u4 ha
    generalize W1.alloc (tyB k m r (.slice ya yo yc) (.slice yb yl yd)) = W7 at *
    generalize W1.heap.size = gb at *
    obtain ⟨g0, g1, g2, g3, g4⟩ := hg7
    obtain ⟨c0f, c1f, ⟨t0, t1, t2, t3, t4⟩, u0, u1, u2, u3, u4⟩ := hS7.out.cells
    have HS := same_any_ty 300 wB W7 k m r (.slice ya yo yc) (.slice yb yl yd) u.kind u.num u.row (.slice ra u.ops.length rc) (.slice rb rl rd) hM7.out.ch hRo.out hRu.out
    go_wp2_with (go_at_call 7; go_must (refine HS.mono ?_; clear HS; rintro en w8 ⟨b, rfl, hc8, hb8⟩; have hbt : b = true := (hb8 _ hFo.out).2 hFu.out; subst hbt; clear hb8; have hfin := hid (hM7.out.quiet hc8); have hcf : Hid (Ch (fun k => k = T ∨ k = R) w w8) := hS7.out.ch.trans hc8 (fun _ h => h.elim); clear hc8))
    go_ret
    exact ⟨rfl, hfin.out, hcf.out⟩

set_option maxRecDepth 100000 in
set_option maxHeartbeats 16000000 in
theorem fits_tree {t : Ty.P} (h0 : t.kind ≠ 0) (ih : ∀ x ∈ kidsT t, FitOK x) : FitOK t := by
  intro wB w T R θ ρ u os az os' az' hM hρ hok hp hup hi hiu hu
  obtain ⟨ak1, ak2, ak3⟩ := app_gen (θ := θ) (ρ := ρ) h0
  rw [← hu] at ak1 ak2 ak3
  obtain ⟨hO, aa, ca, rfl, hK⟩ := hi.gen
  obtain ⟨hOu, ab, cb, rfl, hKu⟩ := hiu.gen
  clear ak3
  have hlk : (kidsT u).length = (kidsT t).length := by rw [ak2, List.length_map]
  rw [hlk] at hiu ⊢
  obtain ⟨qa, qc, rfl, -⟩ := id hO
  obtain ⟨ra, rc, rfl, -⟩ := id hOu
  have hS0 := hid (FtS.start hM t.kind t.num t.row u.kind u.num u.row (.slice qa t.ops.length qc) (.slice aa (kidsT t).length ca) (.slice ra u.ops.length rc) (.slice ab (kidsT t).length cb))
  have hMq : Hid (FitM wB (((w.alloc (.cells #[.map (some T), .map (some R)] 41)).alloc (tyB t.kind t.num t.row (.slice qa t.ops.length qc) (.slice aa (kidsT t).length ca))).alloc (tyB u.kind u.num u.row (.slice ra u.ops.length rc) (.slice ab (kidsT t).length cb))) T R θ ρ) := hM.quiet (((al_ch w _).trans (al_ch _ _) (fun _ h => h.elim)).trans (al_ch _ _) (fun _ h => h.elim))
  have hk0 : ¬ (t.kind : Int) = 0 := by omega
  have hkk : (u.kind : Int) = (t.kind : Int) := by omega
  rw [hkk] at hS0 hMq ⊢
  have hk2 := kids_two t
  clear hkk hi hiu
  replace ak1 := hid ak1
  replace ak2 := hid ak2
  replace hu := hid hu
  replace hlk := hid hlk
  replace hM := hid hM
  replace hρ := hid hρ
  replace hok := hid hok
  replace ih := hid ih
  replace hO := hid hO
  replace hOu := hid hOu
  replace hK := hid hK
  replace hKu := hid hKu
  go_enter Try.func8, Try.ntmps8
  go_upto_region 1 with (fail)
  generalize ((w.alloc (.cells #[.map (some T), .map (some R)] 41)).alloc (tyB t.kind t.num t.row (.slice qa t.ops.length qc) (.slice aa (kidsT t).length ca))).alloc (tyB t.kind u.num u.row (.slice ra u.ops.length rc) (.slice ab (kidsT t).length cb)) = W1 at *
  generalize w.heap.size + 1 + 1 = ub at *
  generalize w.heap.size + 1 = tb at *
  generalize w.heap.size = fb at *
  obtain ⟨c0f, c1f, ⟨t0, t1, t2, t3, t4⟩, u0, u1, u2, u3, u4⟩ := hS0.out.cells
  go_wp2
  have hkb : ((t.kind : Int) == 0) = false := by simpa using hk0
  try simp only [hkb]
  clear c0f c1f t0 t1 t2 t3 t4 u0 u1 u2 u3 u4
  go_loopg [9] ((kidsT t).length + 1) (fun q v9 wr => ∃ i : Nat, v9 = .int .i64 (i : Nat) ∧ i ≤ (kidsT t).length ∧ q = (kidsT t).length + 1 - i ∧ Hid (FtS w wr fb tb ub T R t.kind t.num t.row (.slice qa t.ops.length qc) (.slice aa (kidsT t).length ca) t.kind u.num u.row (.slice ra u.ops.length rc) (.slice ab (kidsT t).length cb)) ∧ Hid (FitM wB wr T R θ ρ))
  case atStart => exact ⟨0, rfl, by omega, by omega, hS0, hMq⟩
  case round =>
    clear hS0 hMq
    obtain ⟨i, rfl, hi, rfl, hS, hMw⟩ := hrel
    obtain ⟨c0f, c1f, ⟨t0, t1, t2, t3, c4t⟩, u0, u1, u2, u3, c4u⟩ := hS.out.cells
    by_cases e : i < (kidsT t).length
    · have i0 : (0 : Int) ≤ i := by omega
      have i1 : (i : Int) < ((kidsT t).length : Int) := by omega
      have hwi : IntKind.i64.wrap ((i : Int) + 1) = (i : Int) + 1 := IntWalk.i64_in _ (by omega)
      obtain ⟨x, hx⟩ : ∃ x, (kidsT t)[i]? = some x := ⟨_, List.getElem?_eq_getElem e⟩
      obtain ⟨y, hy⟩ : ∃ y, (kidsT u)[i]? = some y := ⟨_, List.getElem?_eq_getElem (by rw [hlk.out]; exact e)⟩
      have hyx : y = app θ ρ x := by
        rw [ak2.out, List.getElem?_map, hx] at hy
        exact (Option.some.inj hy).symm
      obtain ⟨xg, xo, ko, ka, rfl, hE, hI⟩ := hK.out i x hx
      obtain ⟨yg, yo, lo, la, rfl, hE2, hI2⟩ := hKu.out i y hy
      have hxm := List.mem_of_getElem? hx
      have hym := List.mem_of_getElem? hy
      have hxp := kid_lt t x hxm
      have hyp := kid_lt u y hym
      have hcB := hMw.out.ch
      obtain ⟨p1, p2, p3, p4, p5⟩ := hE.of_heap (hcB.same _ hE.lt (fun h => h))
      obtain ⟨p6, p7, p8, p9, p10⟩ := hE2.of_heap (hcB.same _ hE2.lt (fun h => h))
      have n1 := hS.out.n1
      have n2 := hS.out.n2
      have n3 := hS.out.n3
      have n4 : ¬ (xg = T ∨ xg = R) := by have := hE.lt; have := hMw.out.lT; have := hMw.out.lR; omega
      have n5 : ¬ (yg = T ∨ yg = R) := by have := hE2.lt; have := hMw.out.lT; have := hMw.out.lR; omega
      have HK := fun (W : World) (hW : Ch (fun _ => False) wr W) => ih.out x hxm (hMw.out.quiet hW) hρ.out (kids_ok hok.out x hxm) (by omega) (by omega) hI hI2 hyx
      obtain ⟨f1, f3, f4, f5, f6, rfl, rfl, -⟩ := hI.slices
      obtain ⟨g1, g3, g4, g5, g6, rfl, rfl, -⟩ := hI2.slices
      generalize x.ops.length = f2 at *
      generalize y.ops.length = g2 at *
      clear hE hE2 hI hI2 hx hy hxm hym hxp hyp hcB hyx t0 t1 t2 t3 u0 u1 u2 u3
      go_upto_region 12 with (fail)
      have hS0 : (fun w' => w'.cell? ⟨fb, 0, none⟩ = some (.map (some T)) ∧ w'.cell? ⟨fb, 1, none⟩ = some (.map (some R)) ∧ w'.cell? ⟨tb, 4, none⟩ = some (.slice (some ⟨xg, xo, none⟩) (kidsT t).length ca) ∧ w'.cell? ⟨ub, 4, none⟩ = some (.slice (some ⟨yg, yo, none⟩) (kidsT t).length cb) ∧ w'.cell? ⟨xg, xo + i * 5, none⟩ = some (.int .i64 x.kind) ∧ w'.cell? ⟨xg, xo + i * 5 + 1, none⟩ = some (.int .i64 x.num) ∧ w'.cell? ⟨xg, xo + i * 5 + 2, none⟩ = some (.int .i64 x.row) ∧ w'.cell? ⟨xg, xo + i * 5 + 3, none⟩ = some (.slice f1 f2 f3) ∧ w'.cell? ⟨xg, xo + i * 5 + 4, none⟩ = some (.slice f4 f5 f6) ∧ w'.cell? ⟨yg, yo + i * 5, none⟩ = some (.int .i64 y.kind) ∧ w'.cell? ⟨yg, yo + i * 5 + 1, none⟩ = some (.int .i64 y.num) ∧ w'.cell? ⟨yg, yo + i * 5 + 2, none⟩ = some (.int .i64 y.row) ∧ w'.cell? ⟨yg, yo + i * 5 + 3, none⟩ = some (.slice g1 g2 g3) ∧ w'.cell? ⟨yg, yo + i * 5 + 4, none⟩ = some (.slice g4 g5 g6)) wr.drew := ⟨cell_keeps (Ch.drew (fun _ => False) wr) c0f, cell_keeps (Ch.drew (fun _ => False) wr) c1f, cell_keeps (Ch.drew (fun _ => False) wr) c4t, cell_keeps (Ch.drew (fun _ => False) wr) c4u, cell_keeps (Ch.drew (fun _ => False) wr) p1, cell_keeps (Ch.drew (fun _ => False) wr) p2, cell_keeps (Ch.drew (fun _ => False) wr) p3, cell_keeps (Ch.drew (fun _ => False) wr) p4, cell_keeps (Ch.drew (fun _ => False) wr) p5, cell_keeps (Ch.drew (fun _ => False) wr) p6, cell_keeps (Ch.drew (fun _ => False) wr) p7, cell_keeps (Ch.drew (fun _ => False) wr) p8, cell_keeps (Ch.drew (fun _ => False) wr) p9, cell_keeps (Ch.drew (fun _ => False) wr) p10⟩
      refine wp_region_held_drew (S := (fun w' => w'.cell? ⟨fb, 0, none⟩ = some (.map (some T)) ∧ w'.cell? ⟨fb, 1, none⟩ = some (.map (some R)) ∧ w'.cell? ⟨tb, 4, none⟩ = some (.slice (some ⟨xg, xo, none⟩) (kidsT t).length ca) ∧ w'.cell? ⟨ub, 4, none⟩ = some (.slice (some ⟨yg, yo, none⟩) (kidsT t).length cb) ∧ w'.cell? ⟨xg, xo + i * 5, none⟩ = some (.int .i64 x.kind) ∧ w'.cell? ⟨xg, xo + i * 5 + 1, none⟩ = some (.int .i64 x.num) ∧ w'.cell? ⟨xg, xo + i * 5 + 2, none⟩ = some (.int .i64 x.row) ∧ w'.cell? ⟨xg, xo + i * 5 + 3, none⟩ = some (.slice f1 f2 f3) ∧ w'.cell? ⟨xg, xo + i * 5 + 4, none⟩ = some (.slice f4 f5 f6) ∧ w'.cell? ⟨yg, yo + i * 5, none⟩ = some (.int .i64 y.kind) ∧ w'.cell? ⟨yg, yo + i * 5 + 1, none⟩ = some (.int .i64 y.num) ∧ w'.cell? ⟨yg, yo + i * 5 + 2, none⟩ = some (.int .i64 y.row) ∧ w'.cell? ⟨yg, yo + i * 5 + 3, none⟩ = some (.slice g1 g2 g3) ∧ w'.cell? ⟨yg, yo + i * 5 + 4, none⟩ = some (.slice g4 g5 g6))) (by kernel_rfl) (by first | trivial | ((try dsimp only); go_keep)) (fun hHeld => ?_)
      refine wpAnyH_take (i := 0) (v := ?vvxf1) rfl (by kernel_rfl) (by kernel_rfl) (by kernel_rfl) (fun _ _ _ h => h) (Or.inl ⟨by rfl, ?yyxf1⟩) (by assumption) ?rrxf1
      case yyxf1 => (intro w' hSw; (try dsimp only at hSw); go_simp; (try with_reducible rfl))
      try simp only [Act.put, List.setIfInBounds_toArray, List.set_cons_zero, List.set_cons_succ]
      refine wpAnyH_take (i := 1) (v := ?vvxf2) rfl (by kernel_rfl) (by kernel_rfl) (by kernel_rfl) (fun _ _ _ h => h) (Or.inl ⟨by rfl, ?yyxf2⟩) (by assumption) ?rrxf2
      case yyxf2 => (intro w' hSw; (try dsimp only at hSw); go_simp; (try with_reducible rfl))
      try simp only [Act.put, List.setIfInBounds_toArray, List.set_cons_zero, List.set_cons_succ]
      refine wpAnyH_take (i := 2) (v := ?vvxf3) rfl (by kernel_rfl) (by kernel_rfl) (by kernel_rfl) (fun _ _ _ h => h) (Or.inl ⟨by rfl, ?yyxf3⟩) (by assumption) ?rrxf3
      case yyxf3 => (intro w' hSw; (try dsimp only at hSw); go_simp; (try with_reducible rfl))
      try simp only [Act.put, List.setIfInBounds_toArray, List.set_cons_zero, List.set_cons_succ]
      refine wpAnyH_take (i := 3) (v := ?vvxf4) rfl (by kernel_rfl) (by kernel_rfl) (by kernel_rfl) (fun _ _ _ h => h) (Or.inl ⟨by rfl, ?yyxf4⟩) (by assumption) ?rrxf4
      case yyxf4 => (intro w' hSw; (try dsimp only at hSw); go_simp; (try with_reducible rfl))
      try simp only [Act.put, List.setIfInBounds_toArray, List.set_cons_zero, List.set_cons_succ]
      refine wpAnyH_take (i := 4) (v := ?vvxf5) rfl (by kernel_rfl) (by kernel_rfl) (by kernel_rfl) (fun _ _ _ h => h) (Or.inl ⟨by rfl, ?yyxf5⟩) (by assumption) ?rrxf5
      case yyxf5 => (intro w' hSw; (try dsimp only at hSw); go_simp; (try with_reducible rfl))
      try simp only [Act.put, List.setIfInBounds_toArray, List.set_cons_zero, List.set_cons_succ]
      refine wpAnyH_take (i := 5) (v := ?vvxf6) rfl (by kernel_rfl) (by kernel_rfl) (by kernel_rfl) (fun _ _ _ h => h) (Or.inl ⟨by rfl, ?yyxf6⟩) (by assumption) ?rrxf6
      case yyxf6 => (intro w' hSw; (try dsimp only at hSw); go_simp; (try with_reducible rfl))
      try simp only [Act.put, List.setIfInBounds_toArray, List.set_cons_zero, List.set_cons_succ]
      refine wpAnyH_take (i := 6) (v := ?vvxf7) rfl (by kernel_rfl) (by kernel_rfl) (by kernel_rfl) (fun _ _ _ h => h) (Or.inl ⟨by rfl, ?yyxf7⟩) (by assumption) ?rrxf7
      case yyxf7 => (intro w' hSw; (try dsimp only at hSw); go_simp; (try with_reducible rfl))
      try simp only [Act.put, List.setIfInBounds_toArray, List.set_cons_zero, List.set_cons_succ]
      refine wpAnyH_take (i := 7) (v := ?vvxf8) rfl (by kernel_rfl) (by kernel_rfl) (by kernel_rfl) (fun _ _ _ h => h) (Or.inl ⟨by rfl, ?yyxf8⟩) (by assumption) ?rrxf8
      case yyxf8 => (intro w' hSw; (try dsimp only at hSw); go_simp; (try with_reducible rfl))
      try simp only [Act.put, List.setIfInBounds_toArray, List.set_cons_zero, List.set_cons_succ]
      refine wpAnyH_take (i := 8) (v := ?vvxf9) rfl (by kernel_rfl) (by kernel_rfl) (by kernel_rfl) (fun _ _ _ h => h) (Or.inl ⟨by rfl, ?yyxf9⟩) (by assumption) ?rrxf9
      case yyxf9 => (intro w' hSw; (try dsimp only at hSw); go_simp; (try with_reducible rfl))
      try simp only [Act.put, List.setIfInBounds_toArray, List.set_cons_zero, List.set_cons_succ]
      refine wpAnyH_take (i := 9) (v := ?vvxf10) rfl (by kernel_rfl) (by kernel_rfl) (by kernel_rfl) (fun _ _ _ h => h) (Or.inl ⟨by rfl, ?yyxf10⟩) (by assumption) ?rrxf10
      case yyxf10 => (intro w' hSw; (try dsimp only at hSw); go_simp; (try with_reducible rfl))
      try simp only [Act.put, List.setIfInBounds_toArray, List.set_cons_zero, List.set_cons_succ]
      refine wpAnyH_take (i := 10) (v := ?vvxf11) rfl (by kernel_rfl) (by kernel_rfl) (by kernel_rfl) (fun _ _ _ h => h) (Or.inl ⟨by rfl, ?yyxf11⟩) (by assumption) ?rrxf11
      case yyxf11 => (intro w' hSw; (try dsimp only at hSw); go_simp; (try with_reducible rfl))
      try simp only [Act.put, List.setIfInBounds_toArray, List.set_cons_zero, List.set_cons_succ]
      refine wpAnyH_ready (rs := [11]) (by kernel_rfl) (by simp) (AllReadyH.cons rfl (fun K hK => ?_) AllReadyH.nil)
      go_simp
      refine (HK _ (Ch.drew (fun _ => False) wr)).mono ?_
      clear HK
      rintro en w3 ⟨rfl, hM3, hc3⟩
      have hc1 : Ch (fun k => k = T ∨ k = R) wr w3 := (((Ch.drew (fun _ => False) wr)).mono (fun _ h => h.elim)).trans hc3 (fun _ h => .inl h)
      have hS5 : (fun w' => w'.cell? ⟨fb, 0, none⟩ = some (.map (some T)) ∧ w'.cell? ⟨fb, 1, none⟩ = some (.map (some R)) ∧ w'.cell? ⟨tb, 4, none⟩ = some (.slice (some ⟨xg, xo, none⟩) (kidsT t).length ca) ∧ w'.cell? ⟨ub, 4, none⟩ = some (.slice (some ⟨yg, yo, none⟩) (kidsT t).length cb) ∧ w'.cell? ⟨xg, xo + i * 5, none⟩ = some (.int .i64 x.kind) ∧ w'.cell? ⟨xg, xo + i * 5 + 1, none⟩ = some (.int .i64 x.num) ∧ w'.cell? ⟨xg, xo + i * 5 + 2, none⟩ = some (.int .i64 x.row) ∧ w'.cell? ⟨xg, xo + i * 5 + 3, none⟩ = some (.slice f1 f2 f3) ∧ w'.cell? ⟨xg, xo + i * 5 + 4, none⟩ = some (.slice f4 f5 f6) ∧ w'.cell? ⟨yg, yo + i * 5, none⟩ = some (.int .i64 y.kind) ∧ w'.cell? ⟨yg, yo + i * 5 + 1, none⟩ = some (.int .i64 y.num) ∧ w'.cell? ⟨yg, yo + i * 5 + 2, none⟩ = some (.int .i64 y.row) ∧ w'.cell? ⟨yg, yo + i * 5 + 3, none⟩ = some (.slice g1 g2 g3) ∧ w'.cell? ⟨yg, yo + i * 5 + 4, none⟩ = some (.slice g4 g5 g6)) w3 := ⟨cell_ch hc1 c0f n1, cell_ch hc1 c1f n1, cell_ch hc1 c4t n2, cell_ch hc1 c4u n3, cell_ch hc1 p1 n4, cell_ch hc1 p2 n4, cell_ch hc1 p3 n4, cell_ch hc1 p4 n4, cell_ch hc1 p5 n4, cell_ch hc1 p6 n5, cell_ch hc1 p7 n5, cell_ch hc1 p8 n5, cell_ch hc1 p9 n5, cell_ch hc1 p10 n5⟩
      replace hM3 := hid hM3
      replace hc1 := hid hc1
      clear hc3
      dsimp only
      clear hHeld
      refine hK.out _ _ ?hs (fun hHeld => ?_)
      case hs => (first | exact hS5 | trivial | ((try dsimp only); go_keep) | ((try dsimp only); simp [*, World.cell?_alloc_some, World.cell?_setCell_far, World.cell?_setCell_other]))
      clear hK K
      try simp only [Act.put, List.setIfInBounds_toArray, List.set_cons_zero, List.set_cons_succ]
      refine wpAnyH_take (i := 12) (v := ?vvxf12) rfl (by kernel_rfl) (by kernel_rfl) (by kernel_rfl) (fun _ _ _ h => h) (Or.inl ⟨by rfl, ?yyxf12⟩) (by assumption) ?rrxf12
      case yyxf12 => (intro w' hSw; (try dsimp only at hSw); go_simp; (try with_reducible rfl))
      try simp only [Act.put, List.setIfInBounds_toArray, List.set_cons_zero, List.set_cons_succ]
      refine wpAnyH_done (by kernel_rfl) ?_ _
      clear hHeld
      clear hS0 hS5 p1 p2 p3 p4 p5 p6 p7 p8 p9 p10 c0f c1f c4t c4u
      have hSn := hid (hS.out.next hc1.out)
      clear hS hMw hc1
      go_wp2
      go_roundg ((kidsT t).length - i)
      case measure => omega
      case rel => exact ⟨i + 1, by simp, by omega, by omega, hSn, hM3⟩
    · have hin : (kidsT t).length = i := by omega
      subst hin
      have i1 : ¬ ((kidsT t).length : Int) < ((kidsT t).length : Int) := by omega
      by_cases e6 : t.kind = 6
      · have hrow : u.ops = (rowW t.ops ρ (rvOf t.row)).1 ∧ u.row = (rowW t.ops ρ (rvOf t.row)).2 ∧ Srt t.ops ∧ t.row ≤ 1000000000 := by
          have h1 := hok.out
          have h2 := hu.out
          clear hS hMw c0f c1f t0 t1 t2 t3 c4t u0 u1 u2 u3 c4u
          cases t <;> simp [Ty.P.kind] at e6
          rw [h2]
          exact ⟨rfl, rfl, Un.srt_of h1.2.2.2.2, h1.2.2.1⟩
        obtain ⟨q1, q2, q3, q4⟩ := hrow
        have ho3 := ops_parts t
        have ho4 := ops_parts u
        have HR := row_fits hMw.out hρ.out (kt := t.kind) (nt := t.num) (ku := t.kind) (nu := u.num) (azt := .slice aa (kidsT t).length ca) (azu := .slice ab (kidsT t).length cb) q3 (by omega) (by omega) q4 hO.out hOu.out q1 q2 ⟨_, _, _, rfl⟩ ⟨_, _, _, rfl⟩
        have e6i : (t.kind : Int) = 6 := by omega
        have e6b : ((t.kind : Int) != 6) = false := by simpa using e6i
        replace e6 := hid e6
        clear q1 q2 q3 q4 e6i
        go_wp2_with (go_at_call 15; go_must (refine HR.mono ?_; clear HR; rintro en w9 ⟨rfl, hM9, hc9⟩; have hcf : Hid (Ch (fun k => k = T ∨ k = R) w w9) := hS.out.ch.trans hc9 (fun _ h => .inl h); replace hM9 := hid hM9; clear hc9))
        all_goals trace_state
        go_ret
        exact ⟨rfl, hM9.out, hcf.out⟩
      · have e6' : ¬ (t.kind : Int) = 6 := by omega
        go_wp2
        go_ret
        exact ⟨rfl, hMw.out, hS.out.ch⟩
theorem fits_any : ∀ (k : Nat) (t : Ty.P), t.parts ≤ k → FitOK t := by
  intro k
  induction k with
  | zero => intro t h; have := t.parts_pos; omega
  | succ k ih =>
    intro t h
    by_cases h0 : t.kind = 0
    · cases t <;> simp [Ty.P.kind] at h0
      exact fits_var _
    · exact fits_tree h0 (fun x hx => ih x (by have := kid_lt t x hx; omega))
end Go.Proofs.Ytcogpcalghfghaa
