/-
  The document's Solve, where it says no ahead of its graph.
  Types that are told join a slice.
  The document's Solve.
-/
import Derived.Test.YtcogpcalghfghaaMEc
import Derived.Test.YtcogpcalghfghaaMDp
set_option linter.unusedVariables false
set_option linter.unusedSimpArgs false
namespace Go.Proofs.Ytcogpcalghfghaa
open Go.RowKit

/-- The five cells of a type. -/
structure Raw where
  k : Int
  n : Int
  r : Int
  os : Value
  az : Value
abbrev ElR (w : World) (g o : Nat) (x : Raw) : Prop := El w g o x.k x.n x.r x.os x.az
abbrev PropR (w : World) (x : Raw) : Prop := IsProp w x.k x.n x.r x.os x.az
abbrev FitsR (w : World) (x : Raw) (t : Ty.P) : Prop := Fits w x.k x.n x.r x.os x.az t
theorem below_ch {w w' : World} (h : Below w.heap.size w w') : Ch (fun _ => False) w w' := ⟨h.size, fun k hk _ => h.block k hk, h.os, h.output⟩
theorem Rdb.up {w : World} : ∀ {n : Nat} {os az : Value}, Rdb w (n + 1) os az → isSl os ∧ isSl az := by
  rintro n os az ⟨⟨o, a, c, rfl, _⟩, a', l, c', rfl, _⟩
  exact ⟨⟨_, _, _, rfl⟩, ⟨_, _, _, rfl⟩⟩
theorem fits_back {w w' : World} (hc : Ch (fun _ => False) w w') {k n r : Int} {os az : Value} {j : Nat} : ∀ {t : Ty.P}, Fits w k n r os az t → Fits w' k n r os az t := by
  rintro t ⟨h1, h2, h3, h4, h5⟩
  exact ⟨h1, h2, h3, h4, IsT.carry (fun k hk => hc.same k hk (fun h => h)) h5⟩
/-- What is no type in a world is none in a later one. -/
theorem isT_back {w w' : World} (hc : Ch (fun _ => False) w w') : ∀ {t : Ty.P} {j : Nat} {os az : Value}, t.parts ≤ j → Rdb w j os az → IsT w' t os az → IsT w t os az := by
  have cell : ∀ {g o : Nat} {k m r k' m' r' : Int} {os az os' az' : Value}, El w g o k m r os az → El w' g o k' m' r' os' az' → El w g o k' m' r' os' az' := by
    intro g o k m r k' m' r' os az os' az' h h'
    obtain ⟨rfl, rfl, rfl, rfl, rfl⟩ := El.one (h.of_heap (hc.same g h.lt (fun h => h))) h'
    exact h
  have ops : ∀ {os : Value} {o l : List (List UInt8)}, OpsV w os o → OpsV w' os l → OpsV w os l := by
    intro os o l h h'
    have := (h.carry (fun k hk => hc.same k hk (fun h => h))).one h'
    subst this
    exact h
  intro t
  induction t with
  | var n => intro j os az _ _ h; exact h
  | int => intro j os az _ _ h; exact h
  | bool => intro j os az _ _ h; exact h
  | unit => intro j os az _ _ h; exact h
  | list a ih =>
    intro j os az hj hr h
    simp only [Ty.P.parts] at hj
    have hp := a.parts_pos
    obtain ⟨j, rfl⟩ : ∃ i, j = i + 1 := ⟨j - 1, by omega⟩
    obtain ⟨hn, g, o, c, os', az', rfl, hc1, e1, i1⟩ := h
    obtain ⟨_, a', l, c', e, hl, hx⟩ := hr
    simp only [Value.slice.injEq] at e
    obtain ⟨rfl, rfl, rfl⟩ := e
    obtain ⟨g', o', e, hx⟩ := hx (by omega)
    simp only [Option.some.injEq, Addr.mk.injEq, and_true] at e
    obtain ⟨rfl, rfl⟩ := e
    obtain ⟨k, m, r, os2, az2, e2, r2⟩ := hx 0 (by omega)
    simp only [Nat.zero_mul, Nat.add_zero] at e2
    have e3 := cell e2 e1
    obtain ⟨_, _, _, rfl, rfl⟩ := El.one e2 e3
    exact ⟨hn, g, o, c, os2, az2, rfl, hc1, e3, ih (by omega) r2 i1⟩
  | pair a b iha ihb =>
    intro j os az hj hr h
    simp only [Ty.P.parts] at hj
    have hp := a.parts_pos
    have hp2 := b.parts_pos
    obtain ⟨j, rfl⟩ : ∃ i, j = i + 1 := ⟨j - 1, by omega⟩
    obtain ⟨hn, g, o, c, os', az', os3, az3, rfl, hc1, e1, i1, e4, i4⟩ := h
    obtain ⟨_, a', l, c', e, hl, hx⟩ := hr
    simp only [Value.slice.injEq] at e
    obtain ⟨rfl, rfl, rfl⟩ := e
    obtain ⟨g', o', e, hx⟩ := hx (by omega)
    simp only [Option.some.injEq, Addr.mk.injEq, and_true] at e
    obtain ⟨rfl, rfl⟩ := e
    obtain ⟨k, m, r, os2, az2, e2, r2⟩ := hx 0 (by omega)
    obtain ⟨k5, m5, r5, os5, az5, e5, s5⟩ := hx 1 (by omega)
    simp only [Nat.zero_mul, Nat.add_zero, Nat.one_mul] at e2 e5
    have e3 := cell e2 e1
    have e6 := cell e5 e4
    obtain ⟨_, _, _, rfl, rfl⟩ := El.one e2 e3
    obtain ⟨_, _, _, rfl, rfl⟩ := El.one e5 e6
    exact ⟨hn, g, o, c, os2, az2, os5, az5, rfl, hc1, e3, iha (by omega) r2 i1, e6, ihb (by omega) s5 i4⟩
  | fn a b l0 r0 iha ihb =>
    intro j os az hj hr h
    simp only [Ty.P.parts] at hj
    have hp := a.parts_pos
    have hp2 := b.parts_pos
    obtain ⟨j, rfl⟩ : ∃ i, j = i + 1 := ⟨j - 1, by omega⟩
    obtain ⟨hn, g, o, c, os', az', os3, az3, rfl, hc1, e1, i1, e4, i4⟩ := h
    obtain ⟨⟨oo, ho⟩, a', l, c', e, hl, hx⟩ := hr
    simp only [Value.slice.injEq] at e
    obtain ⟨rfl, rfl, rfl⟩ := e
    obtain ⟨g', o', e, hx⟩ := hx (by omega)
    simp only [Option.some.injEq, Addr.mk.injEq, and_true] at e
    obtain ⟨rfl, rfl⟩ := e
    obtain ⟨k, m, r, os2, az2, e2, r2⟩ := hx 0 (by omega)
    obtain ⟨k5, m5, r5, os5, az5, e5, s5⟩ := hx 1 (by omega)
    simp only [Nat.zero_mul, Nat.add_zero, Nat.one_mul] at e2 e5
    have e3 := cell e2 e1
    have e6 := cell e5 e4
    obtain ⟨_, _, _, rfl, rfl⟩ := El.one e2 e3
    obtain ⟨_, _, _, rfl, rfl⟩ := El.one e5 e6
    exact ⟨ops ho hn, g, o, c, os2, az2, os5, az5, rfl, hc1, e3, iha (by omega) r2 i1, e6, ihb (by omega) s5 i4⟩
theorem prop_iff {w w' : World} (hc : Ch (fun _ => False) w w') {x : Raw} (h : Rdb w 301 x.os x.az) : PropR w' x ↔ PropR w x := by
  constructor
  · rintro ⟨t, ⟨h1, h2, h3, h4, h5⟩, h6⟩
    exact ⟨t, ⟨h1, h2, h3, h4, isT_back hc (by omega) h h5⟩, h6⟩
  · rintro ⟨t, h1, h6⟩
    exact ⟨t, fits_back (j := 0) hc h1, h6⟩

theorem flt_cells {w : World} {x : Nat} {a b : Value} {T : TypeId} (h : w.heap[x]? = some (.cells #[a, b] T (0, 0))) : w.cell? ⟨x, 0, none⟩ = some a ∧ w.cell? ⟨x, 1, none⟩ = some b ∧ w.frozen? ⟨x, 0, none⟩ = false ∧ w.frozen? ⟨x, 1, none⟩ = false := by
  refine ⟨?_, ?_, ?_, ?_⟩
  · unfold World.cell?; rw [h]; rfl
  · unfold World.cell?; rw [h]; rfl
  · unfold World.frozen?; rw [h]; rfl
  · unfold World.frozen?; rw [h]; rfl
abbrev flt (k a : Int) : Value := .agg #[.int .i64 k, .int .i64 a]
def SolvePost (w : World) (k a : Int) (en : Ending) (w' : World) : Prop := en = .returned (.tuple #[.slice none 0 0, flt k a]) ∧ Ch (fun _ => False) w w'

end Go.Proofs.Ytcogpcalghfghaa

namespace Go.Proofs.Ytcogpcalghfghaa
open Go.RowKit

abbrev Ent := Ty.P × Value × Value
def Ent.cells (e : Ent) : List Value := tyC e.1.kind e.1.num e.1.row e.2.1 e.2.2
/-- Types in a slice that grows: its block is new since B, so are those of each type. -/
structure OutI (B : Nat) (wr : World) (v : Value) (es : List Ent) : Prop where
  row : wr.ownsRow 0 27 5 v es.length (es.flatMap Ent.cells)
  blk : ∀ k, v.ownBlock = some k → B ≤ k
  el : ∀ e ∈ es, ∃ n w1, Rb n w1 e.1 e.2.1 e.2.2 ∧ B ≤ n ∧ w1.heap.size ≤ wr.heap.size ∧ (∀ k, n ≤ k → k < w1.heap.size → wr.heap[k]? = w1.heap[k]?) ∧ ∀ k, v.ownBlock = some k → k < n ∨ w1.heap.size ≤ k
theorem OutI.nil (B : Nat) (w : World) : OutI B w (.slice none 0 0) [] := ⟨World.ownsRow_nil _ _ _ _, fun k hk => (by cases hk), fun e he => (by cases he)⟩
theorem OutI.ch {B : Nat} {wr w' : World} {v : Value} {es : List Ent} {O : Nat → Prop} (h : OutI B wr v es) (hc : Ch O wr w') (hO : ∀ k, O k → k < B) : OutI B w' v es := by
  have hs : ∀ k, B ≤ k → k < wr.heap.size → w'.heap[k]? = wr.heap[k]? := fun k h1 h2 => hc.same k h2 (fun h3 => by have := hO k h3; omega)
  refine ⟨ownsRow_keep h.row (fun k hk => hs k (h.blk k hk) (ownsRow_lt h.row hk)), h.blk, fun e he => ?_⟩
  obtain ⟨n, w1, h1, h2, h3, h4, h5⟩ := h.el e he
  exact ⟨n, w1, h1, h2, Nat.le_trans h3 hc.size, fun k h6 h7 => (hs k (by omega) (by omega)).trans (h4 k h6 h7), h5⟩
/-- One more type, told in new blocks, joins. -/
theorem OutI.app {B n : Nat} {w1 wr w3 : World} {v v' : Value} {es : List Ent} {t : Ty.P} {os az : Value} (h : OutI B wr v es) (hr : Rb n w1 t os az) (hn : B ≤ n) (h1 : w1.heap.size ≤ wr.heap.size) (hs : ∀ k, n ≤ k → k < w1.heap.size → wr.heap[k]? = w1.heap[k]?) (hv : ∀ k, v.ownBlock = some k → k < n ∨ w1.heap.size ≤ k)
    (hrow : w3.ownsRow 0 27 5 v' (es.length + 1) (es.flatMap Ent.cells ++ tyC t.kind t.num t.row os az)) (hgrow : wr.grownBy w3 v.ownBlock) (hblk : v'.ownBlock = v.ownBlock ∨ v'.ownBlock = some wr.heap.size) (hB : B ≤ wr.heap.size) : OutI B w3 v' (es ++ [(t, os, az)]) := by
  have hc : Ch (fun k => v.ownBlock = some k) wr w3 := Ch.grown hgrow (fun k hk => hk)
  have hv' : ∀ k, v'.ownBlock = some k → v.ownBlock = some k ∨ k = wr.heap.size := fun k hk => by
    rcases hblk with e | e
    · exact .inl (e ▸ hk)
    · rw [e] at hk; exact .inr (Option.some.inj hk).symm
  refine ⟨by simpa [Ent.cells] using hrow, fun k hk => ?_, fun e he => ?_⟩
  · rcases hv' k hk with h2 | rfl
    · exact h.blk k h2
    · exact hB
  · have key : ∀ (n : Nat) (w1 : World), w1.heap.size ≤ wr.heap.size → (∀ k, n ≤ k → k < w1.heap.size → wr.heap[k]? = w1.heap[k]?) → (∀ k, v.ownBlock = some k → k < n ∨ w1.heap.size ≤ k) →
        w1.heap.size ≤ w3.heap.size ∧ (∀ k, n ≤ k → k < w1.heap.size → w3.heap[k]? = w1.heap[k]?) ∧ ∀ k, v'.ownBlock = some k → k < n ∨ w1.heap.size ≤ k := by
      intro n w1 a1 a2 a3
      refine ⟨Nat.le_trans a1 hc.size, fun k h6 h7 => (hc.same k (by omega) (fun h8 => by have := a3 k h8; omega)).trans (a2 k h6 h7), fun k hk => ?_⟩
      rcases hv' k hk with h2 | rfl
      · exact a3 k h2
      · exact .inr a1
    rcases List.mem_append.1 he with he | he
    · obtain ⟨n, w1, b1, b2, b3, b4, b5⟩ := h.el e he
      obtain ⟨c1, c2, c3⟩ := key n w1 b3 b4 b5
      exact ⟨n, w1, b1, b2, c1, c2, c3⟩
    · obtain rfl := List.mem_singleton.1 he
      obtain ⟨c1, c2, c3⟩ := key n w1 h1 hs hv
      exact ⟨n, w1, hr, hn, c1, c2, c3⟩
theorem flat_at : ∀ {es : List Ent} {i : Nat} {e : Ent}, es[i]? = some e → ∀ j, j < 5 → (es.flatMap Ent.cells)[i * 5 + j]? = (Ent.cells e)[j]? := by
  intro es
  induction es with
  | nil => intro i e h; simp at h
  | cons x es ih =>
    intro i e h j hj
    have hl : (Ent.cells x).length = 5 := rfl
    cases i with
    | zero =>
      simp at h
      subst h
      rw [List.flatMap_cons, Nat.zero_mul, Nat.zero_add, List.getElem?_append_left (by omega)]
    | succ i =>
      rw [List.flatMap_cons, List.getElem?_append_right (by rw [hl]; omega), hl, show (i + 1) * 5 + j - 5 = i * 5 + j by omega]
      exact ih (by simpa using h) j hj
/-- Types in a slice, each of five cells. -/
def TysV (w : World) (v : Value) (l : List Ty.P) : Prop := ∃ a c, v = .slice a l.length c ∧ (l ≠ [] → ∃ g, a = some ⟨g, 0, none⟩ ∧ ∀ i t, l[i]? = some t → ∃ os az, El w g (i * 5) t.kind t.num t.row os az ∧ IsT w t os az)
theorem OutI.tys {B : Nat} {wr : World} {v : Value} {es : List Ent} (h : OutI B wr v es) : TysV wr v (es.map (·.1)) := by
  obtain ⟨a, c, rfl, h1, h2⟩ := row_slice h.row
  refine ⟨a, c, by simp, fun h0 => ?_⟩
  rcases h1 with h1 | ⟨g, rfl⟩
  · exact absurd (by simp [List.length_eq_zero_iff.1 h1]) h0
  · refine ⟨g, rfl, fun i t ht => ?_⟩
    obtain ⟨e, he, rfl⟩ : ∃ e, es[i]? = some e ∧ e.1 = t := by simpa using ht
    obtain ⟨n, w1, b1, b2, b3, b4, b5⟩ := h.el e (List.mem_of_getElem? he)
    have c := fun (j : Nat) (u : Value) (hj : j < 5) (hu : (Ent.cells e)[j]? = some u) => row_cell h.row (i * 5 + j) u ((flat_at he j hj).trans hu)
    exact ⟨e.2.1, e.2.2, ⟨c 0 _ (by omega) rfl, c 1 _ (by omega) rfl, c 2 _ (by omega) rfl, c 3 _ (by omega) rfl, c 4 _ (by omega) rfl⟩, b1.is wr (fun k h1 h2 => b4 k h1 h2)⟩
theorem TysV.keep {w w' : World} {v : Value} {l : List Ty.P} (h : TysV w v l) (hc : ∀ k, k < w.heap.size → w'.heap[k]? = w.heap[k]?) : TysV w' v l := by
  obtain ⟨a, c, h1, h2⟩ := h
  refine ⟨a, c, h1, fun h0 => ?_⟩
  obtain ⟨g, h3, h4⟩ := h2 h0
  refine ⟨g, h3, fun i t ht => ?_⟩
  obtain ⟨os, az, h5, h6⟩ := h4 i t ht
  exact ⟨os, az, h5.of_heap (hc g h5.lt), IsT.carry hc h6⟩
end Go.Proofs.Ytcogpcalghfghaa

namespace Go.Proofs.Ytcogpcalghfghaa
open Go.RowKit

namespace Dg
end Dg

def SolveRet (w : World) (out : List Ty.P) (k a : Nat) (en : Ending) (w' : World) : Prop := ∃ v, en = .returned (.tuple #[v, flt k a]) ∧ TysV w' v out ∧ Ch (fun _ => False) w w'

/-- What is known of the pairs' types once all are proper. -/
def PsF (w : World) (A B : Nat → Raw) (ps : List (Ty.P × Ty.P)) : Prop := ∀ i p, ps[i]? = some p → FitsR w (A i) p.1 ∧ FitsR w (B i) p.2

def AllP (w : World) (n : Nat) (A B : Nat → Raw) : Prop := ∀ i, i < n → PropR w (A i) ∧ PropR w (B i)
end Go.Proofs.Ytcogpcalghfghaa
