/-
  The statement's Same.
-/
import Derived.Test.YtcogpcalghfghaaMVx
set_option linter.unusedVariables false
set_option linter.unusedSimpArgs false
namespace Go.Proofs.Ytcogpcalghfghaa
open Go.RowKit

/-- What can be read in whole: how deep it is at most; no row is longer than a slice. -/
def Rdd (w : World) : Nat → Value → Value → Prop
  | 0, _, _ => False
  | n + 1, os, az => (∃ o : List (List UInt8), OpsV w os o ∧ o.length ≤ 9223372036854775807) ∧
      ∃ (a : Option Addr) (l c : Nat), az = .slice a l c ∧ l ≤ c ∧ l ≤ 9223372036854775807 ∧ (l ≠ 0 → ∃ g o, a = some ⟨g, o, none⟩ ∧ ∀ i, i < l → ∃ k m r os' az', El w g (o + i * 5) k m r os' az' ∧ Rdd w n os' az')
/-- Which type cells say, proper or not. -/
def FT (w : World) (k n r : Int) (os az : Value) (t : Ty.P) : Prop := k = t.kind ∧ n = t.num ∧ r = t.row ∧ IsT w t os az
theorem FT.one {w : World} {k n r : Int} {os az : Value} {t t' : Ty.P} (h : FT w k n r os az t) (h' : FT w k n r os az t') : t = t' := by
  obtain ⟨h1, h2, h3, h4⟩ := h
  obtain ⟨e1, e2, e3, e4⟩ := h'
  exact isT_one (by omega) (by omega) (by omega) h4 e4
theorem OpsV.nul {w : World} {v : Value} (h : OpsV w v []) : Nul v := by
  obtain ⟨a, c, e, _⟩ := h
  exact ⟨a, c, e⟩
theorem isT_mk {w : World} {t : Ty.P} {os : Value} {a : Option Addr} {c : Nat} (ho : OpsV w os t.ops) (hc : (kidsT t).length ≤ c) (hk : ∀ i u, (kidsT t)[i]? = some u → ∃ g o os' az', a = some ⟨g, o, none⟩ ∧ El w g (o + i * 5) u.kind u.num u.row os' az' ∧ IsT w u os' az') :
    IsT w t os (.slice a (kidsT t).length c) := by
  cases t with
  | list x =>
    obtain ⟨g, o, os', az', rfl, h1, h2⟩ := hk 0 x rfl
    exact ⟨ho.nul, g, o, c, os', az', rfl, hc, by simpa [ElT] using h1, h2⟩
  | pair x y =>
    obtain ⟨g, o, os', az', rfl, h1, h2⟩ := hk 0 x rfl
    obtain ⟨g', o', os2, az2, e, h3, h4⟩ := hk 1 y rfl
    simp only [Option.some.injEq, Addr.mk.injEq, and_true] at e
    obtain ⟨rfl, rfl⟩ := e
    exact ⟨ho.nul, g, o, c, os', az', os2, az2, rfl, hc, by simpa [ElT] using h1, h2, by simpa [ElT] using h3, h4⟩
  | fn x y l r =>
    obtain ⟨g, o, os', az', rfl, h1, h2⟩ := hk 0 x rfl
    obtain ⟨g', o', os2, az2, e, h3, h4⟩ := hk 1 y rfl
    simp only [Option.some.injEq, Addr.mk.injEq, and_true] at e
    obtain ⟨rfl, rfl⟩ := e
    exact ⟨ho, g, o, c, os', az', os2, az2, rfl, hc, by simpa [ElT] using h1, h2, by simpa [ElT] using h3, h4⟩
  | _ => exact ⟨ho.nul, a, c, rfl⟩
/-- The kids of cells that say a type. -/
theorem FT.gen {w : World} {k n r : Int} {a : Option Addr} {l c : Nat} {os : Value} {o : List (List UInt8)} {t : Ty.P} (h : FT w k n r os (.slice a l c) t) (ho : OpsV w os o) : o = t.ops ∧ l = (kidsT t).length ∧ ∀ g q, a = some ⟨g, q, none⟩ → ∀ (i : Nat) (u : Ty.P), (kidsT t)[i]? = some u → ∀ {k m r : Int} {os' az' : Value}, El w g (q + i * 5) k m r os' az' → FT w k m r os' az' u := by
  obtain ⟨_, _, _, h4⟩ := h
  obtain ⟨g1, a', c', e, g2⟩ := h4.gen
  simp only [Value.slice.injEq] at e
  obtain ⟨rfl, rfl, rfl⟩ := e
  refine ⟨ho.one g1, rfl, fun g q e i u hu k m r os' az' he => ?_⟩
  obtain ⟨g', q', os2, az2, e2, h5, h6⟩ := g2 i u hu
  rw [e] at e2
  simp only [Option.some.injEq, Addr.mk.injEq, and_true] at e2
  obtain ⟨rfl, rfl⟩ := e2
  obtain ⟨q1, q2, q3, rfl, rfl⟩ := El.one he h5
  exact ⟨q1, q2, q3, h6⟩
/-- What Same answers. -/
def SmP (w0 w : World) (k n r : Int) (os az : Value) (k' n' r' : Int) (os' az' : Value) (e : Ending) (w' : World) : Prop :=
  ∃ b : Bool, e = .returned (.bool b) ∧ Ch (fun _ => False) w w' ∧ ∀ t, FT w0 k n r os az t → (b = true ↔ FT w0 k' n' r' os' az' t)
def SmOK (j : Nat) : Prop := ∀ (w0 w : World) (k n r : Int) (os az : Value) (k' n' r' : Int) (os' az' : Value), Ch (fun _ => False) w0 w → Rdd w0 j os az → Rdd w0 j os' az' →
  Calls Try.prog 7 #[tyV k n r os az, tyV k' n' r' os' az'] w fun e w' => SmP w0 w k n r os az k' n' r' os' az' e w'
theorem cell_keeps {w w' : World} (hc : Ch (fun _ => False) w w') {b i : Nat} {v : Value} (e : w.cell? ⟨b, i, none⟩ = some v) : w'.cell? ⟨b, i, none⟩ = some v := (hc.cell (World.block_lt_of_cell? w ⟨b, i, none⟩ e) (fun h => h)).trans e
theorem OpsV.len {w : World} {a : Option Addr} {n c : Nat} {o : List (List UInt8)} (h : OpsV w (.slice a n c) o) : n = o.length := by
  obtain ⟨_, _, e, _⟩ := h
  simp only [Value.slice.injEq] at e
  exact e.2.1
theorem ba_inj {a b : ByteArray} (h : a.toList = b.toList) : a = b := by
  rw [ByteArray.toList_eq, ByteArray.toList_eq] at h
  cases a
  cases b
  simp only at h
  rw [Array.toList_inj.1 h]
/-- Both boxes. -/
structure TwoB (w wr : World) (bx bb : Nat) (sa sb' sc sd : Value) : Prop where
  ch : Ch (fun _ => False) w wr
  c3 : wr.cell? ⟨bx, 3, none⟩ = some sa
  c4 : wr.cell? ⟨bx, 4, none⟩ = some sb'
  d3 : wr.cell? ⟨bb, 3, none⟩ = some sc
  d4 : wr.cell? ⟨bb, 4, none⟩ = some sd
theorem TwoB.keep {w wr w' : World} {bx bb : Nat} {sa sb' sc sd : Value} (h : TwoB w wr bx bb sa sb' sc sd) (hc : Ch (fun _ => False) wr w') : TwoB w w' bx bb sa sb' sc sd := by
  have q : ∀ {b i : Nat} {v : Value}, wr.cell? ⟨b, i, none⟩ = some v → w'.cell? ⟨b, i, none⟩ = some v := fun {b i v} e => (hc.cell (World.block_lt_of_cell? wr ⟨b, i, none⟩ e) (fun h => h)).trans e
  exact ⟨h.ch.trans hc (fun _ h => h.elim), q h.c3, q h.c4, q h.d3, q h.d4⟩

set_option maxRecDepth 100000 in
set_option maxHeartbeats 8000000 in
theorem same_step {j : Nat} (ih : SmOK j) : SmOK (j + 1) := by
  rintro w0 w k n r os az k' n' r' os' az' hc0 ⟨⟨o, hO, hO63⟩, xa, la, ca, rfl, hlc, hl63, hx⟩ ⟨⟨o', hO', -⟩, ya, lb, cb, rfl, hlc', -, hy⟩
  obtain ⟨oa, oc, rfl, hO1, hO2⟩ := id hO
  obtain ⟨oa', oc', es', hO1', hO2'⟩ := id hO'
  obtain ⟨p', hp', es2⟩ : ∃ p', p' = o'.length ∧ os' = .slice oa' p' oc' := ⟨_, rfl, es'⟩
  subst es2
  clear es' hp'
  have hch := ((al_ch w (tyB k n r (.slice oa o.length oc) (.slice xa la ca))).trans (al_ch (w.alloc (tyB k n r (.slice oa o.length oc) (.slice xa la ca))) (tyB k' n' r' (.slice oa' p' oc') (.slice ya lb cb))) (fun _ h => h.elim))
  have hno : ∀ t, FT w0 k n r (.slice oa o.length oc) (.slice xa la ca) t → FT w0 k' n' r' (.slice oa' p' oc') (.slice ya lb cb) t → k = k' ∧ n = n' ∧ r = r' ∧ o = o' ∧ la = lb := fun t h h' => by
    obtain ⟨a1, a2, _⟩ := h.gen hO
    obtain ⟨b1, b2, _⟩ := h'.gen hO'
    obtain ⟨h1, h2, h3, _⟩ := h
    obtain ⟨e1, e2, e3, _⟩ := h'
    exact ⟨by omega, by omega, by omega, by rw [a1, b1], by omega⟩
  have no : ∀ (w' : World), Ch (fun _ => False) w w' → ¬ (k = k' ∧ n = n' ∧ r = r' ∧ o = o' ∧ la = lb) → SmP w0 w k n r (.slice oa o.length oc) (.slice xa la ca) k' n' r' (.slice oa' p' oc') (.slice ya lb cb) (.returned (.bool false)) w' :=
    fun w' hc hn => ⟨false, rfl, hc, fun t ht => ⟨(fun e => by cases e), fun h => absurd (hno t ht h) hn⟩⟩
  replace hch := hid hch
  replace hno := hid hno
  replace hO := hid hO
  replace hO' := hid hO'
  replace hO1 := hid hO1
  replace hO2 := hid hO2
  replace hO1' := hid hO1'
  replace hO2' := hid hO2'
  replace hx := hid hx
  replace hy := hid hy
  replace no := hid no
  replace hc0 := hid hc0
  by_cases e1 : k = k'
  case neg =>
    go_enter Try.func7, Try.ntmps7
    go_wp2
    go_ret
    exact no.out _ hch.out (fun h => e1 h.1)
  by_cases e2 : n = n'
  case neg =>
    subst e1
    go_enter Try.func7, Try.ntmps7
    go_wp2
    go_ret
    exact no.out _ hch.out (fun h => e2 h.2.1)
  by_cases e3 : r = r'
  case neg =>
    subst e1 e2
    go_enter Try.func7, Try.ntmps7
    go_wp2
    go_ret
    exact no.out _ hch.out (fun h => e3 h.2.2.1)
  by_cases e4 : o.length = p'
  case neg =>
    subst e1 e2 e3
    have e4' : ¬ (o.length : Int) = p' := by omega
    go_enter Try.func7, Try.ntmps7
    go_wp2
    go_ret
    exact no.out _ hch.out (fun h => e4 (by have := congrArg List.length h.2.2.2.1; have := hO'.out.len; omega))
  by_cases e5 : la = lb
  case neg =>
    subst e1 e2 e3 e4
    have e5' : ¬ (la : Int) = lb := by omega
    go_enter Try.func7, Try.ntmps7
    go_wp2
    go_ret
    exact no.out _ hch.out (fun h => e5 h.2.2.2.2)
  subst e1 e2 e3 e4 e5
  go_enter Try.func7, Try.ntmps7
  go_wp2
  have HT : Hid (TwoB w ((w.alloc (tyB k n r (.slice oa o.length oc) (.slice xa la ca))).alloc (tyB k n r (.slice oa' o.length oc') (.slice ya la cb))) w.heap.size (w.heap.size + 1) (.slice oa o.length oc) (.slice xa la ca) (.slice oa' o.length oc') (.slice ya la cb)) := by
    have b1 := World.alloc_heap_new w (tyB k n r (.slice oa o.length oc) (.slice xa la ca))
    have b2 := World.alloc_heap_new (w.alloc (tyB k n r (.slice oa o.length oc) (.slice xa la ca))) (tyB k n r (.slice oa' o.length oc') (.slice ya la cb))
    rw [World.size_alloc] at b2
    have b3 := blk_alloc (x := tyB k n r (.slice oa' o.length oc') (.slice ya la cb)) b1
    exact ⟨hch.out, by rw [cellB b3]; rfl, by rw [cellB b3]; rfl, by rw [cellB b2]; rfl, by rw [cellB b2]; rfl⟩
  clear hch
  generalize (w.alloc (tyB k n r (.slice oa o.length oc) (.slice xa la ca))).alloc (tyB k n r (.slice oa' o.length oc') (.slice ya la cb)) = W at *
  generalize w.heap.size + 1 = bb at *
  generalize w.heap.size = bx at *
  go_loopg [5] (o.length + 1) (fun q v wr => ∃ i : Nat, v = .int .i64 (i : Nat) ∧ i ≤ o.length ∧ q = o.length + 1 - i ∧ Hid (o.take i = o'.take i) ∧ Hid (TwoB w wr bx bb (.slice oa o.length oc) (.slice xa la ca) (.slice oa' o.length oc') (.slice ya la cb)))
  case atStart => exact ⟨0, rfl, by omega, by omega, rfl, HT⟩
  case round =>
    clear HT
    obtain ⟨i, rfl, hi, rfl, hE, HB⟩ := hrel
    obtain ⟨-, c3, c4, d3, d4⟩ := id HB.out
    by_cases e : i < o.length
    · have i0 : (0 : Int) ≤ i := by omega
      have i1 : (i : Int) < (o.length : Int) := by omega
      have hi' : i < o'.length := by have := hO'.out.len; omega
      have hwi : IntKind.i64.wrap ((i : Int) + 1) = (i : Int) + 1 := IntWalk.i64_in _ (by omega)
      have hcw : Ch (fun _ => False) w0 wr := hc0.out.trans HB.out.ch (fun _ h => h.elim)
      obtain ⟨g1, q1, rfl, hg1⟩ := hO2.out (fun h => by rw [h] at e; cases e)
      obtain ⟨g2, q2, rfl, hg2⟩ := hO2'.out (fun h => by rw [h] at hi'; cases hi')
      have s1 : wr.cell? ⟨g1, q1 + i, none⟩ = some (.string ⟨o[i].toArray⟩) := (hcw.cell (World.block_lt_of_cell? w0 ⟨g1, q1 + i, none⟩ (hg1 i e)) (fun h => h)).trans (hg1 i e)
      have s2 : wr.cell? ⟨g2, q2 + i, none⟩ = some (.string ⟨o'[i].toArray⟩) := (hcw.cell (World.block_lt_of_cell? w0 ⟨g2, q2 + i, none⟩ (hg2 i hi')) (fun h => h)).trans (hg2 i hi')
      by_cases es : o[i] = o'[i]
      · rw [← es] at s2
        have hE2 : Hid (o.take (i + 1) = o'.take (i + 1)) := by
          show _ = _
          rw [List.take_succ_eq_append_getElem e, List.take_succ_eq_append_getElem hi', hE.out, es]
        clear hg1 hg2 hcw
        generalize (⟨o[i].toArray⟩ : ByteArray) = sx at *
        go_wp2_with (go_quiet (fail))
        go_roundg (o.length - i)
        case measure => omega
        case rel =>
          refine ⟨i + 1, by simp, by omega, by omega, hE2, ?_⟩
          first
            | exact HB
            | exact HB.out.keep (Ch.drew (fun _ => False) _)
            | exact HB.out.keep ((Ch.refl (fun _ => False) _).dn _)
      · have hs : ¬ ((⟨o[i].toArray⟩ : ByteArray) = ⟨o'[i].toArray⟩) := fun h => es (by simpa using h)
        clear hg1 hg2 hcw
        generalize (⟨o[i].toArray⟩ : ByteArray) = sx at *
        generalize (⟨o'[i].toArray⟩ : ByteArray) = sy at *
        have hne : Hid (¬ (k = k ∧ n = n ∧ r = r ∧ o = o' ∧ la = la)) := fun h => es (by have := h.2.2.2.1; subst this; rfl)
        go_wp2_with (go_quiet (fail))
        · go_ret
          first
            | exact no.out _ HB.out.ch hne.out
            | exact no.out _ (HB.out.ch.trans (Ch.drew (fun _ => False) _) (fun _ h => h.elim)) hne.out
            | exact no.out _ (HB.out.ch.dn _) hne.out
        · rename_i hq
          rename_i hq
          exact absurd (ba_inj (by simpa using hq)) hs
    · obtain rfl : i = o.length := by omega
      have i1 : ¬ (o.length : Int) < (o.length : Int) := by omega
      have hEo : Hid (o = o') := by
        have h1 := hE.out
        have h2 := hO'.out.len
        rw [List.take_length, h2, List.take_length] at h1
        exact h1
      clear hE
      go_wp2
      clear c3 d3
      replace HB := hid HB.out
      go_loopg [6] (la + 1) (fun q v w2 => ∃ i : Nat, v = .int .i64 (i : Nat) ∧ i ≤ la ∧ q = la + 1 - i ∧ Hid (TwoB w w2 bx bb (.slice oa o.length oc) (.slice xa la ca) (.slice oa' o.length oc') (.slice ya la cb)) ∧
        Hid (∀ t, FT w0 k n r (.slice oa o.length oc) (.slice xa la ca) t → ∀ j, j < i → ∀ u, (kidsT t)[j]? = some u → ∀ yg yo, ya = some ⟨yg, yo, none⟩ → ∃ k' m' r' os' az', El w0 yg (yo + j * 5) k' m' r' os' az' ∧ FT w0 k' m' r' os' az' u))
      case atStart => exact ⟨0, rfl, by omega, by omega, HB, fun t _ j hj => absurd hj (by omega)⟩
      case round =>
        clear HB
        obtain ⟨i, rfl, hi, rfl, HB, hK⟩ := hrel
        obtain ⟨-, -, c4, -, d4⟩ := id HB.out
        by_cases e : i < la
        · have i0 : (0 : Int) ≤ i := by omega
          have i1 : (i : Int) < (la : Int) := by omega
          have hwi : IntKind.i64.wrap ((i : Int) + 1) = (i : Int) + 1 := IntWalk.i64_in _ (by omega)
          obtain ⟨xg, xo, rfl, hxe⟩ := hx.out (by omega)
          obtain ⟨yg, yo, rfl, hye⟩ := hy.out (by omega)
          obtain ⟨k1, m1, r1, os1, az1, hX, hXr⟩ := hxe i e
          obtain ⟨k2, m2, r2, os2, az2, hY, hYr⟩ := hye i e
          have HX := hid hX
          have HY := hid hY
          have hcw : Hid (Ch (fun _ => False) w0 wr) := hc0.out.trans HB.out.ch (fun _ h => h.elim)
          have HR := fun (v : World) (hv : Ch (fun _ => False) wr v) => (ih w0 v k1 m1 r1 os1 az1 k2 m2 r2 os2 az2 (hcw.out.trans hv (fun _ h => h.elim)) hXr hYr)
          obtain ⟨p1, p2, p3, p4, p5⟩ := hX.of_heap (hcw.out.same _ hX.lt (fun h => h))
          obtain ⟨p6, p7, p8, p9, p10⟩ := hY.of_heap (hcw.out.same _ hY.lt (fun h => h))
          have z1 : isSl os1 ∧ isSl az1 := by
            cases j with
            | zero => exact hXr.elim
            | succ j => obtain ⟨⟨o, ⟨_, _, q1, _⟩, _⟩, _, _, _, q2, _⟩ := hXr; exact ⟨⟨_, _, _, q1⟩, _, _, _, q2⟩
          have z2 : isSl os2 ∧ isSl az2 := by
            cases j with
            | zero => exact hYr.elim
            | succ j => obtain ⟨⟨o, ⟨_, _, q1, _⟩, _⟩, _, _, _, q2, _⟩ := hYr; exact ⟨⟨_, _, _, q1⟩, _, _, _, q2⟩
          obtain ⟨⟨f1, f2, f3, rfl⟩, ⟨f4, f5, f6, rfl⟩⟩ := z1
          obtain ⟨⟨g1, g2, g3, rfl⟩, ⟨g4, g5, g6, rfl⟩⟩ := z2
          replace HR := hid HR
          clear hxe hye hX hY hXr hYr
          go_upto_region 11 with (fail)
          have hS0 : (fun w' => w'.cell? ⟨bx, 4, none⟩ = some (.slice (some ⟨xg, xo, none⟩) la ca) ∧ w'.cell? ⟨bb, 4, none⟩ = some (.slice (some ⟨yg, yo, none⟩) la cb) ∧ w'.cell? ⟨xg, xo + i * 5, none⟩ = some (.int .i64 k1) ∧ w'.cell? ⟨xg, xo + i * 5 + 1, none⟩ = some (.int .i64 m1) ∧ w'.cell? ⟨xg, xo + i * 5 + 2, none⟩ = some (.int .i64 r1) ∧ w'.cell? ⟨xg, xo + i * 5 + 3, none⟩ = some (.slice f1 f2 f3) ∧ w'.cell? ⟨xg, xo + i * 5 + 4, none⟩ = some (.slice f4 f5 f6) ∧ w'.cell? ⟨yg, yo + i * 5, none⟩ = some (.int .i64 k2) ∧ w'.cell? ⟨yg, yo + i * 5 + 1, none⟩ = some (.int .i64 m2) ∧ w'.cell? ⟨yg, yo + i * 5 + 2, none⟩ = some (.int .i64 r2) ∧ w'.cell? ⟨yg, yo + i * 5 + 3, none⟩ = some (.slice g1 g2 g3) ∧ w'.cell? ⟨yg, yo + i * 5 + 4, none⟩ = some (.slice g4 g5 g6)) wr.drew := ⟨cell_keeps (Ch.drew (fun _ => False) wr) c4, cell_keeps (Ch.drew (fun _ => False) wr) d4, cell_keeps (Ch.drew (fun _ => False) wr) p1, cell_keeps (Ch.drew (fun _ => False) wr) p2, cell_keeps (Ch.drew (fun _ => False) wr) p3, cell_keeps (Ch.drew (fun _ => False) wr) p4, cell_keeps (Ch.drew (fun _ => False) wr) p5, cell_keeps (Ch.drew (fun _ => False) wr) p6, cell_keeps (Ch.drew (fun _ => False) wr) p7, cell_keeps (Ch.drew (fun _ => False) wr) p8, cell_keeps (Ch.drew (fun _ => False) wr) p9, cell_keeps (Ch.drew (fun _ => False) wr) p10⟩
          refine wp_region_held_drew (S := (fun w' => w'.cell? ⟨bx, 4, none⟩ = some (.slice (some ⟨xg, xo, none⟩) la ca) ∧ w'.cell? ⟨bb, 4, none⟩ = some (.slice (some ⟨yg, yo, none⟩) la cb) ∧ w'.cell? ⟨xg, xo + i * 5, none⟩ = some (.int .i64 k1) ∧ w'.cell? ⟨xg, xo + i * 5 + 1, none⟩ = some (.int .i64 m1) ∧ w'.cell? ⟨xg, xo + i * 5 + 2, none⟩ = some (.int .i64 r1) ∧ w'.cell? ⟨xg, xo + i * 5 + 3, none⟩ = some (.slice f1 f2 f3) ∧ w'.cell? ⟨xg, xo + i * 5 + 4, none⟩ = some (.slice f4 f5 f6) ∧ w'.cell? ⟨yg, yo + i * 5, none⟩ = some (.int .i64 k2) ∧ w'.cell? ⟨yg, yo + i * 5 + 1, none⟩ = some (.int .i64 m2) ∧ w'.cell? ⟨yg, yo + i * 5 + 2, none⟩ = some (.int .i64 r2) ∧ w'.cell? ⟨yg, yo + i * 5 + 3, none⟩ = some (.slice g1 g2 g3) ∧ w'.cell? ⟨yg, yo + i * 5 + 4, none⟩ = some (.slice g4 g5 g6))) (by kernel_rfl) (by first | trivial | ((try dsimp only); go_keep)) (fun hHeld => ?_)
          refine wpAnyH_take (i := 0) (v := ?vvwa1) rfl (by kernel_rfl) (by kernel_rfl) (by kernel_rfl) (fun _ _ _ h => h) (Or.inl ⟨by rfl, ?yywa1⟩) (by assumption) ?rrwa1
          case yywa1 => (intro w' hSw; (try dsimp only at hSw); go_simp; (try with_reducible rfl))
          try simp only [Act.put, List.setIfInBounds_toArray, List.set_cons_zero, List.set_cons_succ]
          refine wpAnyH_take (i := 1) (v := ?vvwa2) rfl (by kernel_rfl) (by kernel_rfl) (by kernel_rfl) (fun _ _ _ h => h) (Or.inl ⟨by rfl, ?yywa2⟩) (by assumption) ?rrwa2
          case yywa2 => (intro w' hSw; (try dsimp only at hSw); go_simp; (try with_reducible rfl))
          try simp only [Act.put, List.setIfInBounds_toArray, List.set_cons_zero, List.set_cons_succ]
          refine wpAnyH_take (i := 2) (v := ?vvwa3) rfl (by kernel_rfl) (by kernel_rfl) (by kernel_rfl) (fun _ _ _ h => h) (Or.inl ⟨by rfl, ?yywa3⟩) (by assumption) ?rrwa3
          case yywa3 => (intro w' hSw; (try dsimp only at hSw); go_simp; (try with_reducible rfl))
          try simp only [Act.put, List.setIfInBounds_toArray, List.set_cons_zero, List.set_cons_succ]
          refine wpAnyH_take (i := 3) (v := ?vvwa4) rfl (by kernel_rfl) (by kernel_rfl) (by kernel_rfl) (fun _ _ _ h => h) (Or.inl ⟨by rfl, ?yywa4⟩) (by assumption) ?rrwa4
          case yywa4 => (intro w' hSw; (try dsimp only at hSw); go_simp; (try with_reducible rfl))
          try simp only [Act.put, List.setIfInBounds_toArray, List.set_cons_zero, List.set_cons_succ]
          refine wpAnyH_take (i := 4) (v := ?vvwa5) rfl (by kernel_rfl) (by kernel_rfl) (by kernel_rfl) (fun _ _ _ h => h) (Or.inl ⟨by rfl, ?yywa5⟩) (by assumption) ?rrwa5
          case yywa5 => (intro w' hSw; (try dsimp only at hSw); go_simp; (try with_reducible rfl))
          try simp only [Act.put, List.setIfInBounds_toArray, List.set_cons_zero, List.set_cons_succ]
          refine wpAnyH_take (i := 5) (v := ?vvwa6) rfl (by kernel_rfl) (by kernel_rfl) (by kernel_rfl) (fun _ _ _ h => h) (Or.inl ⟨by rfl, ?yywa6⟩) (by assumption) ?rrwa6
          case yywa6 => (intro w' hSw; (try dsimp only at hSw); go_simp; (try with_reducible rfl))
          try simp only [Act.put, List.setIfInBounds_toArray, List.set_cons_zero, List.set_cons_succ]
          refine wpAnyH_take (i := 6) (v := ?vvwa7) rfl (by kernel_rfl) (by kernel_rfl) (by kernel_rfl) (fun _ _ _ h => h) (Or.inl ⟨by rfl, ?yywa7⟩) (by assumption) ?rrwa7
          case yywa7 => (intro w' hSw; (try dsimp only at hSw); go_simp; (try with_reducible rfl))
          try simp only [Act.put, List.setIfInBounds_toArray, List.set_cons_zero, List.set_cons_succ]
          refine wpAnyH_take (i := 7) (v := ?vvwa8) rfl (by kernel_rfl) (by kernel_rfl) (by kernel_rfl) (fun _ _ _ h => h) (Or.inl ⟨by rfl, ?yywa8⟩) (by assumption) ?rrwa8
          case yywa8 => (intro w' hSw; (try dsimp only at hSw); go_simp; (try with_reducible rfl))
          try simp only [Act.put, List.setIfInBounds_toArray, List.set_cons_zero, List.set_cons_succ]
          refine wpAnyH_take (i := 8) (v := ?vvwa9) rfl (by kernel_rfl) (by kernel_rfl) (by kernel_rfl) (fun _ _ _ h => h) (Or.inl ⟨by rfl, ?yywa9⟩) (by assumption) ?rrwa9
          case yywa9 => (intro w' hSw; (try dsimp only at hSw); go_simp; (try with_reducible rfl))
          try simp only [Act.put, List.setIfInBounds_toArray, List.set_cons_zero, List.set_cons_succ]
          refine wpAnyH_take (i := 9) (v := ?vvwa10) rfl (by kernel_rfl) (by kernel_rfl) (by kernel_rfl) (fun _ _ _ h => h) (Or.inl ⟨by rfl, ?yywa10⟩) (by assumption) ?rrwa10
          case yywa10 => (intro w' hSw; (try dsimp only at hSw); go_simp; (try with_reducible rfl))
          try simp only [Act.put, List.setIfInBounds_toArray, List.set_cons_zero, List.set_cons_succ]
          refine wpAnyH_ready (rs := [10]) (by kernel_rfl) (by simp) (AllReadyH.cons rfl (fun K hK => ?_) AllReadyH.nil)
          go_simp
          refine (HR.out _ (Ch.drew (fun _ => False) wr)).mono ?_
          clear HR
          rintro en w3 ⟨b, rfl, hc3, hb3⟩
          have hS5 : (fun w' => w'.cell? ⟨bx, 4, none⟩ = some (.slice (some ⟨xg, xo, none⟩) la ca) ∧ w'.cell? ⟨bb, 4, none⟩ = some (.slice (some ⟨yg, yo, none⟩) la cb) ∧ w'.cell? ⟨xg, xo + i * 5, none⟩ = some (.int .i64 k1) ∧ w'.cell? ⟨xg, xo + i * 5 + 1, none⟩ = some (.int .i64 m1) ∧ w'.cell? ⟨xg, xo + i * 5 + 2, none⟩ = some (.int .i64 r1) ∧ w'.cell? ⟨xg, xo + i * 5 + 3, none⟩ = some (.slice f1 f2 f3) ∧ w'.cell? ⟨xg, xo + i * 5 + 4, none⟩ = some (.slice f4 f5 f6) ∧ w'.cell? ⟨yg, yo + i * 5, none⟩ = some (.int .i64 k2) ∧ w'.cell? ⟨yg, yo + i * 5 + 1, none⟩ = some (.int .i64 m2) ∧ w'.cell? ⟨yg, yo + i * 5 + 2, none⟩ = some (.int .i64 r2) ∧ w'.cell? ⟨yg, yo + i * 5 + 3, none⟩ = some (.slice g1 g2 g3) ∧ w'.cell? ⟨yg, yo + i * 5 + 4, none⟩ = some (.slice g4 g5 g6)) w3 := ⟨cell_keeps (((Ch.drew (fun _ => False) wr)).trans hc3 (fun _ h => h.elim)) c4, cell_keeps (((Ch.drew (fun _ => False) wr)).trans hc3 (fun _ h => h.elim)) d4, cell_keeps (((Ch.drew (fun _ => False) wr)).trans hc3 (fun _ h => h.elim)) p1, cell_keeps (((Ch.drew (fun _ => False) wr)).trans hc3 (fun _ h => h.elim)) p2, cell_keeps (((Ch.drew (fun _ => False) wr)).trans hc3 (fun _ h => h.elim)) p3, cell_keeps (((Ch.drew (fun _ => False) wr)).trans hc3 (fun _ h => h.elim)) p4, cell_keeps (((Ch.drew (fun _ => False) wr)).trans hc3 (fun _ h => h.elim)) p5, cell_keeps (((Ch.drew (fun _ => False) wr)).trans hc3 (fun _ h => h.elim)) p6, cell_keeps (((Ch.drew (fun _ => False) wr)).trans hc3 (fun _ h => h.elim)) p7, cell_keeps (((Ch.drew (fun _ => False) wr)).trans hc3 (fun _ h => h.elim)) p8, cell_keeps (((Ch.drew (fun _ => False) wr)).trans hc3 (fun _ h => h.elim)) p9, cell_keeps (((Ch.drew (fun _ => False) wr)).trans hc3 (fun _ h => h.elim)) p10⟩
          replace hc3 := hid hc3
          replace hb3 := hid hb3
          dsimp only
          clear hHeld
          refine hK.out _ _ ?hs (fun hHeld => ?_)
          case hs => (first | exact hS5 | trivial | ((try dsimp only); go_keep) | ((try dsimp only); simp [*, World.cell?_alloc_some, World.cell?_setCell_far, World.cell?_setCell_other]))
          clear hK K
          try simp only [Act.put, List.setIfInBounds_toArray, List.set_cons_zero, List.set_cons_succ]
          refine wpAnyH_take (i := 11) (v := ?vvwa11) rfl (by kernel_rfl) (by kernel_rfl) (by kernel_rfl) (fun _ _ _ h => h) (Or.inl ⟨by rfl, ?yywa11⟩) (by assumption) ?rrwa11
          case yywa11 => (intro w' hSw; (try dsimp only at hSw); go_simp; (try with_reducible rfl))
          try simp only [Act.put, List.setIfInBounds_toArray, List.set_cons_zero, List.set_cons_succ]
          refine wpAnyH_done (by kernel_rfl) ?_ _
          clear hHeld
          clear c4 d4 p1 p2 p3 p4 p5 p6 p7 p8 p9 p10 hS0 hS5
          have hcf : Hid (Ch (fun _ => False) wr w3) := (Ch.drew (fun _ => False) wr).trans hc3.out (fun _ h => h.elim)
          clear hc3
          cases b with
          | false =>
            go_wp2
            go_ret
            refine ⟨false, rfl, ?_, fun t ht => ⟨(fun h => by cases h), fun h => ?_⟩⟩
            · exact HB.out.ch.trans hcf.out (fun _ h => h.elim)
            · obtain ⟨a1, a2, a3⟩ := ht.gen hO.out
              obtain ⟨b1, b2, b3⟩ := h.gen hO'.out
              have hu : (kidsT t)[i]? = some (kidsT t)[i] := List.getElem?_eq_getElem (by omega)
              exact absurd ((hb3.out _ (a3 xg xo rfl i _ hu HX.out)).2 (b3 yg yo rfl i _ hu HY.out)) (by simp)
          | true =>
            go_wp2
            go_roundg (la - i)
            case measure => omega
            case rel =>
              refine ⟨i + 1, by simp, by omega, by omega, hid (HB.out.keep hcf.out), fun t ht jj hj u hu yg' yo' hy' => ?_⟩
              by_cases ej : jj = i
              · subst ej
                simp only [Option.some.injEq, Addr.mk.injEq, and_true] at hy'
                obtain ⟨rfl, rfl⟩ := hy'
                obtain ⟨a1, a2, a3⟩ := ht.gen hO.out
                exact ⟨_, _, _, _, _, HY.out, (hb3.out u (a3 xg xo rfl jj u hu HX.out)).1 (by trivial)⟩
              · exact hK.out t ht jj (by omega) u hu yg' yo' hy'
        · obtain rfl : i = la := by omega
          have i1 : ¬ (i : Int) < (i : Int) := by omega
          go_wp2
          go_ret
          refine ⟨true, rfl, ?_, fun t ht => ⟨fun _ => ?_, fun _ => rfl⟩⟩
          · first
              | exact HB.out.ch
              | exact HB.out.ch.dn _
          · obtain ⟨a1, a2, a3⟩ := ht.gen hO.out
            obtain ⟨t1, t2, t3, _⟩ := id ht
            refine ⟨t1, t2, t3, ?_⟩
            have hk2 := hK.out t ht
            subst a2
            refine isT_mk (by have h := hO'.out; have e0 := hEo.out.symm.trans a1; rw [e0] at h; exact h) hlc' (fun j u hu => ?_)
            have hj : j < (kidsT t).length := (List.getElem?_eq_some_iff.1 hu).1
            obtain ⟨yg, yo, rfl, _⟩ := hy.out (by omega)
            obtain ⟨k', m', r', os2, az2, h1, h2, h3, h4, h5⟩ := hk2 j hj u hu yg yo rfl
            subst h2 h3 h4
            exact ⟨yg, yo, os2, az2, rfl, h1, h5⟩
theorem same_any_ty : ∀ j, SmOK j := by
  intro j
  induction j with
  | zero => intro w0 w k n r os az k' n' r' os' az' _ h; exact h.elim
  | succ j ih => exact same_step ih
end Go.Proofs.Ytcogpcalghfghaa
