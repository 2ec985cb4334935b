/-
  The document's Told, of any node.
  The document's Solve, where it says no ahead of its graph.
  What stands while the document solves pairs.
  Types that are told join a slice.
-/
import Derived.Test.YtficijneelpmcaaGreatDy
import Derived.Test.YtficijneelpmcaaGreatDz
import Derived.Test.YtficijneelpmcaaGreatMEc
set_option linter.unusedVariables false
set_option linter.unusedSimpArgs false
namespace Go.Proofs.YtficijneelpmcaaGreat
open Go.RowKit

theorem Told_step {b T R f k : Nat} (ih : ToldOK b T R f k) : ToldOK b T R f (k + 1) := by
  intro w G d n N N' t h hN ht
  unfold Dg.told at ht
  obtain ⟨n', fn, ht1⟩ := Option.bind_eq_some_iff.1 ht
  clear ht
  obtain ⟨ni, rfl, hnl⟩ := find_at fn
  obtain ⟨kd, hk, ht2⟩ := Option.bind_eq_some_iff.1 ht1
  clear ht1
  split at ht2
  · rename_i e0
    subst e0
    split at ht2
    · rename_i e1
      obtain ⟨rfl, rfl⟩ := Prod.mk.inj (Option.some.inj ht2)
      exact Told_var h hN fn hk e1.2 (m := (Dg.number N.1 ni).1.toNat) (by have := e1.1; omega)
    · cases ht2
  · obtain ⟨a, ha, ht3⟩ := Option.bind_eq_some_iff.1 ht2
    obtain ⟨c, hc, ht4⟩ := Option.bind_eq_some_iff.1 ht3
    clear ht2 ht3
    split at ht4
    · rename_i e
      obtain ⟨rfl, ha0, hc0⟩ := e
      obtain ⟨rfl, rfl⟩ := Prod.mk.inj (Option.some.inj ht4)
      exact Told_leaf (t := .int) (by simp [Ty.P.kind]) (by simp [Ty.P.kind]) h hN fn hk ha hc ha0 hc0
    · split at ht4
      · rename_i e
        obtain ⟨rfl, ha0, hc0⟩ := e
        obtain ⟨rfl, rfl⟩ := Prod.mk.inj (Option.some.inj ht4)
        exact Told_leaf (t := .bool) (by simp [Ty.P.kind]) (by simp [Ty.P.kind]) h hN fn hk ha hc ha0 hc0
      · split at ht4
        · rename_i e
          obtain ⟨rfl, ha0, hc0⟩ := e
          obtain ⟨rfl, rfl⟩ := Prod.mk.inj (Option.some.inj ht4)
          exact Told_leaf (t := .unit) (by simp [Ty.P.kind]) (by simp [Ty.P.kind]) h hN fn hk ha hc ha0 hc0
        · split at ht4
          · rename_i e
            obtain ⟨rfl, ha0, hc0⟩ := e
            obtain ⟨⟨x, N1⟩, hp, ht5⟩ := Option.bind_eq_some_iff.1 ht4
            obtain ⟨rfl, rfl⟩ := Prod.mk.inj (Option.some.inj ht5)
            exact Told_list ih h hN fn hk ha hc ha0 hc0 hp
          · split at ht4
            · rename_i e
              obtain ⟨rfl, ha0, hc0⟩ := e
              obtain ⟨⟨x, N1⟩, hp, ht5⟩ := Option.bind_eq_some_iff.1 ht4
              obtain ⟨⟨y, N2⟩, hp2, ht6⟩ := Option.bind_eq_some_iff.1 ht5
              obtain ⟨rfl, rfl⟩ := Prod.mk.inj (Option.some.inj ht6)
              exact Told_pair ih h hN fn hk ha hc ha0 hc0 hp hp2
            · split at ht4
              · rename_i e
                obtain ⟨rfl, ha0, hc0⟩ := e
                obtain ⟨⟨x, N1⟩, hp, ht5⟩ := Option.bind_eq_some_iff.1 ht4
                obtain ⟨r, hr, ht6⟩ := Option.bind_eq_some_iff.1 ht5
                obtain ⟨⟨l, v⟩, hw, ht7⟩ := Option.bind_eq_some_iff.1 ht6
                obtain ⟨⟨m, M⟩, hq, ht8⟩ := Option.bind_eq_some_iff.1 ht7
                obtain ⟨⟨y, N2⟩, hp2, ht9⟩ := Option.bind_eq_some_iff.1 ht8
                obtain ⟨rfl, rfl⟩ := Prod.mk.inj (Option.some.inj ht9)
                dsimp only at hq hp2
                unfold Dg.rowNum at hq
                split at hq
                · rename_i hv
                  split at hq
                  · rename_i hl
                    obtain ⟨rfl, rfl⟩ := Prod.mk.inj (Option.some.inj hq)
                    exact Told_fnR ih h hN fn hk ha hc ha0 hc0 hr hw hv hl.2 (m := (Dg.number N1.2 v).1.toNat) (by have := hl.1; omega) hp hp2
                  · cases hq
                · rename_i hv
                  obtain ⟨rfl, rfl⟩ := Prod.mk.inj (Option.some.inj hq)
                  exact Told_fn0 ih h hN fn hk ha hc ha0 hc0 hr hw hv hp hp2
              · cases ht4
theorem Told_any (b T R f : Nat) : ∀ k, ToldOK b T R f k
  | 0 => fun _ _ h => by cases h
  | k + 1 => Told_step (Told_any b T R f k)
end Go.Proofs.YtficijneelpmcaaGreat

namespace Go.Proofs.YtficijneelpmcaaGreat
open Go.RowKit

/-- The five cells of a type. -/
structure Raw where
  k : Int
  n : Int
  r : Int
  os : Value
  az : Value
abbrev ElR (w : World) (g o : Nat) (x : Raw) : Prop := El w g o x.k x.n x.r x.os x.az
abbrev PropR (w : World) (x : Raw) : Prop := IsProp w x.k x.n x.r x.os x.az
abbrev FitsR (w : World) (x : Raw) (t : Ty.P) : Prop := Fits w x.k x.n x.r x.os x.az t
/-- Pairs of types in memory. -/
structure PrM (w : World) (g o n : Nat) (A B : Nat → Raw) : Prop where
  a : ∀ i, i < n → ElR w g (o + i * 10) (A i) ∧ Rdb w 301 (A i).os (A i).az
  b : ∀ i, i < n → ElR w g (o + i * 10 + 5) (B i) ∧ Rdb w 301 (B i).os (B i).az
theorem PrM.keep {w w' : World} {g o n : Nat} {A B : Nat → Raw} (h : PrM w g o n A B) (hc : Ch (fun _ => False) w w') : PrM w' g o n A B := by
  have hs : ∀ k, k < w.heap.size → w'.heap[k]? = w.heap[k]? := fun k hk => hc.same k hk (fun h => h)
  exact ⟨fun i hi => ⟨(h.a i hi).1.of_heap (hs g (h.a i hi).1.lt), Rdb.carry hs (h.a i hi).2⟩, fun i hi => ⟨(h.b i hi).1.of_heap (hs g (h.b i hi).1.lt), Rdb.carry hs (h.b i hi).2⟩⟩
theorem below_ch {w w' : World} (h : Below w.heap.size w w') : Ch (fun _ => False) w w' := ⟨h.size, fun k hk _ => h.block k hk, h.os, h.output⟩
theorem Rdb.up {w : World} : ∀ {n : Nat} {os az : Value}, Rdb w (n + 1) os az → isSl os ∧ isSl az := by
  rintro n os az ⟨⟨o, a, c, rfl, _⟩, a', l, c', rfl, _⟩
  exact ⟨⟨_, _, _, rfl⟩, ⟨_, _, _, rfl⟩⟩
theorem fits_back {w w' : World} (hc : Ch (fun _ => False) w w') {k n r : Int} {os az : Value} {j : Nat} : ∀ {t : Ty.P}, Fits w k n r os az t → Fits w' k n r os az t := by
  rintro t ⟨h1, h2, h3, h4, h5⟩
  exact ⟨h1, h2, h3, h4, IsT.carry (fun k hk => hc.same k hk (fun h => h)) h5⟩
/-- What is no type in a world is none in a later one. -/
theorem isT_back {w w' : World} (hc : Ch (fun _ => False) w w') : ∀ {t : Ty.P} {j : Nat} {os az : Value}, t.parts ≤ j → Rdb w j os az → IsT w' t os az → IsT w t os az := by
  have cell : ∀ {g o : Nat} {k m r k' m' r' : Int} {os az os' az' : Value}, El w g o k m r os az → El w' g o k' m' r' os' az' → El w g o k' m' r' os' az' := by
    intro g o k m r k' m' r' os az os' az' h h'
    obtain ⟨rfl, rfl, rfl, rfl, rfl⟩ := El.one (h.of_heap (hc.same g h.lt (fun h => h))) h'
    exact h
  have ops : ∀ {os : Value} {o l : List (List UInt8)}, OpsV w os o → OpsV w' os l → OpsV w os l := by
    intro os o l h h'
    have := (h.carry (fun k hk => hc.same k hk (fun h => h))).one h'
    subst this
    exact h
  intro t
  induction t with
  | var n => intro j os az _ _ h; exact h
  | int => intro j os az _ _ h; exact h
  | bool => intro j os az _ _ h; exact h
  | unit => intro j os az _ _ h; exact h
  | list a ih =>
    intro j os az hj hr h
    simp only [Ty.P.parts] at hj
    have hp := a.parts_pos
    obtain ⟨j, rfl⟩ : ∃ i, j = i + 1 := ⟨j - 1, by omega⟩
    obtain ⟨hn, g, o, c, os', az', rfl, hc1, e1, i1⟩ := h
    obtain ⟨_, a', l, c', e, hl, hx⟩ := hr
    simp only [Value.slice.injEq] at e
    obtain ⟨rfl, rfl, rfl⟩ := e
    obtain ⟨g', o', e, hx⟩ := hx (by omega)
    simp only [Option.some.injEq, Addr.mk.injEq, and_true] at e
    obtain ⟨rfl, rfl⟩ := e
    obtain ⟨k, m, r, os2, az2, e2, r2⟩ := hx 0 (by omega)
    simp only [Nat.zero_mul, Nat.add_zero] at e2
    have e3 := cell e2 e1
    obtain ⟨_, _, _, rfl, rfl⟩ := El.one e2 e3
    exact ⟨hn, g, o, c, os2, az2, rfl, hc1, e3, ih (by omega) r2 i1⟩
  | pair a b iha ihb =>
    intro j os az hj hr h
    simp only [Ty.P.parts] at hj
    have hp := a.parts_pos
    have hp2 := b.parts_pos
    obtain ⟨j, rfl⟩ : ∃ i, j = i + 1 := ⟨j - 1, by omega⟩
    obtain ⟨hn, g, o, c, os', az', os3, az3, rfl, hc1, e1, i1, e4, i4⟩ := h
    obtain ⟨_, a', l, c', e, hl, hx⟩ := hr
    simp only [Value.slice.injEq] at e
    obtain ⟨rfl, rfl, rfl⟩ := e
    obtain ⟨g', o', e, hx⟩ := hx (by omega)
    simp only [Option.some.injEq, Addr.mk.injEq, and_true] at e
    obtain ⟨rfl, rfl⟩ := e
    obtain ⟨k, m, r, os2, az2, e2, r2⟩ := hx 0 (by omega)
    obtain ⟨k5, m5, r5, os5, az5, e5, s5⟩ := hx 1 (by omega)
    simp only [Nat.zero_mul, Nat.add_zero, Nat.one_mul] at e2 e5
    have e3 := cell e2 e1
    have e6 := cell e5 e4
    obtain ⟨_, _, _, rfl, rfl⟩ := El.one e2 e3
    obtain ⟨_, _, _, rfl, rfl⟩ := El.one e5 e6
    exact ⟨hn, g, o, c, os2, az2, os5, az5, rfl, hc1, e3, iha (by omega) r2 i1, e6, ihb (by omega) s5 i4⟩
  | fn a b l0 r0 iha ihb =>
    intro j os az hj hr h
    simp only [Ty.P.parts] at hj
    have hp := a.parts_pos
    have hp2 := b.parts_pos
    obtain ⟨j, rfl⟩ : ∃ i, j = i + 1 := ⟨j - 1, by omega⟩
    obtain ⟨hn, g, o, c, os', az', os3, az3, rfl, hc1, e1, i1, e4, i4⟩ := h
    obtain ⟨⟨oo, ho⟩, a', l, c', e, hl, hx⟩ := hr
    simp only [Value.slice.injEq] at e
    obtain ⟨rfl, rfl, rfl⟩ := e
    obtain ⟨g', o', e, hx⟩ := hx (by omega)
    simp only [Option.some.injEq, Addr.mk.injEq, and_true] at e
    obtain ⟨rfl, rfl⟩ := e
    obtain ⟨k, m, r, os2, az2, e2, r2⟩ := hx 0 (by omega)
    obtain ⟨k5, m5, r5, os5, az5, e5, s5⟩ := hx 1 (by omega)
    simp only [Nat.zero_mul, Nat.add_zero, Nat.one_mul] at e2 e5
    have e3 := cell e2 e1
    have e6 := cell e5 e4
    obtain ⟨_, _, _, rfl, rfl⟩ := El.one e2 e3
    obtain ⟨_, _, _, rfl, rfl⟩ := El.one e5 e6
    exact ⟨ops ho hn, g, o, c, os2, az2, os5, az5, rfl, hc1, e3, iha (by omega) r2 i1, e6, ihb (by omega) s5 i4⟩
theorem prop_iff {w w' : World} (hc : Ch (fun _ => False) w w') {x : Raw} (h : Rdb w 301 x.os x.az) : PropR w' x ↔ PropR w x := by
  constructor
  · rintro ⟨t, ⟨h1, h2, h3, h4, h5⟩, h6⟩
    exact ⟨t, ⟨h1, h2, h3, h4, isT_back hc (by omega) h h5⟩, h6⟩
  · rintro ⟨t, h1, h6⟩
    exact ⟨t, fits_back (j := 0) hc h1, h6⟩

theorem flt_cells {w : World} {x : Nat} {a b : Value} {T : TypeId} (h : w.heap[x]? = some (.cells #[a, b] T (0, 0))) : w.cell? ⟨x, 0, none⟩ = some a ∧ w.cell? ⟨x, 1, none⟩ = some b ∧ w.frozen? ⟨x, 0, none⟩ = false ∧ w.frozen? ⟨x, 1, none⟩ = false := by
  refine ⟨?_, ?_, ?_, ?_⟩
  · unfold World.cell?; rw [h]; rfl
  · unfold World.cell?; rw [h]; rfl
  · unfold World.frozen?; rw [h]; rfl
  · unfold World.frozen?; rw [h]; rfl
abbrev flt (k a : Int) : Value := .agg #[.int .i64 k, .int .i64 a]
def SolvePost (w : World) (k a : Int) (en : Ending) (w' : World) : Prop := en = .returned (.tuple #[.slice none 0 0, flt k a]) ∧ Ch (fun _ => False) w w'

set_option maxRecDepth 100000 in
set_option maxHeartbeats 4000000 in
theorem RSolve_many (w : World) (a : Option Addr) (n c : Nat) (hn : 20 < n) :
    Calls Tryz.prog 5 #[.slice a n c] w fun en w' => SolvePost w 11 20 en w' := by
  have h1 : (20 : Int) < n := by omega
  go_enter Tryz.func5, Tryz.ntmps5
  go_wp2
  refine bodyPost_ret (v := .tuple #[.slice none 0 0, flt 11 20]) (by simp [results, Tryz.results5, go_sem]) rfl ⟨rfl, ?_⟩
  exact al_ch w _
end Go.Proofs.YtficijneelpmcaaGreat

namespace Go.Proofs.YtficijneelpmcaaGreat
open Go.RowKit

structure L2 (W0 wr : World) (b : Nat) (G : Gg) (d : Dg.D) (lv : Value) (l : List Int) : Prop where
  gd : GD wr b G d
  past : Past W0 wr b G
  row : wr.ownsRow 0 3 1 lv l.length (ints l)
  new : ∀ k, lv.ownBlock = some k → W0.heap.size ≤ k ∧ ¬ G.own b k
  eo : wr.os = W0.os ∧ wr.output = W0.output
theorem L2.gs {W0 wr w' : World} {b : Nat} {G : Gg} {d d' : Dg.D} {lv : Value} {l : List Int} (h : L2 W0 wr b G d lv l) (hs : GS wr b G w' d') : ∃ G', L2 W0 w' b G' d' lv l := by
  obtain ⟨G', g, c, m⟩ := hs
  refine ⟨G', g, h.past.step c m, ownsRow_keep h.row (fun k hk => c.same k (ownsRow_lt h.row hk) (h.new k hk).2), fun k hk => ⟨(h.new k hk).1, fun ho => ?_⟩, c.eo.1.trans h.eo.1, c.eo.2.trans h.eo.2⟩
  rcases m k ho with h1 | h1
  · exact (h.new k hk).2 h1
  · have h2 := ownsRow_lt h.row hk
    omega
theorem L2.quiet {W0 wr w' : World} {b : Nat} {G : Gg} {d : Dg.D} {lv : Value} {l : List Int} (h : L2 W0 wr b G d lv l) (hc : Ch (fun _ => False) wr w') : L2 W0 w' b G d lv l :=
  ⟨h.gd.quiet hc, h.past.step (hc.mono (fun _ h => h.elim)) (fun _ h => .inl h), ownsRow_keep h.row (fun k hk => hc.same k (ownsRow_lt h.row hk) (fun h => h)), h.new, hc.eo.1.trans h.eo.1, hc.eo.2.trans h.eo.2⟩
theorem L2.app {W0 wr w1 : World} {b : Nat} {G : Gg} {d : Dg.D} {lv v' : Value} {l : List Int} {x : Int} (h : L2 W0 wr b G d lv l) (hrow : w1.ownsRow 0 3 1 v' (l.length + 1) (ints l ++ [.int .i64 x])) (hgrow : wr.grownBy w1 lv.ownBlock) (hblk : v'.ownBlock = lv.ownBlock ∨ v'.ownBlock = some wr.heap.size) : L2 W0 w1 b G d v' (l ++ [x]) := by
  have hc : Ch (fun k => lv.ownBlock = some k) wr w1 := Ch.grown hgrow (fun k hk => hk)
  refine ⟨h.gd.apart hc (fun k hk e => (h.new k e).2 hk) (fun i u k hu hk e => (out_row h.gd h.row e (h.new k e).2).2 i u hu hk), ⟨Nat.le_trans h.past.size hc.size, fun k hk => (hc.same k (Nat.lt_of_lt_of_le hk h.past.size) (fun e => ?_)).trans (h.past.same k hk), h.past.own⟩, ?_, fun k hk => ?_, hc.eo.1.trans h.eo.1, hc.eo.2.trans h.eo.2⟩
  · have := (h.new k e).1; omega
  · rw [ints_snoc] at hrow
    simpa using hrow
  · rcases hblk with e | e
    · exact h.new k (e ▸ hk)
    · rw [e] at hk
      obtain rfl := Option.some.inj hk
      exact ⟨h.past.size, fun ho => Nat.lt_irrefl _ (h.gd.gm.lt ho)⟩
theorem L2.ch {W0 wr : World} {b : Nat} {G : Gg} {d : Dg.D} {lv : Value} {l : List Int} (h : L2 W0 wr b G d lv l) : Ch (fun _ => False) W0 wr := ⟨h.past.size, fun k hk _ => h.past.same k hk, h.eo⟩
theorem Tryz.infoInt : (Tryz.prog.info? 3).map (fun i => (i.zero, i.size, i.bytes)) = some (some (.int .i64 0), 1, 8) := by kernel_rfl
/-- The cells of the row, for the walk. -/
theorem L2.at {W0 wr : World} {b : Nat} {G : Gg} {d : Dg.D} {lv : Value} {l : List Int} (h : L2 W0 wr b G d lv l) {j : Nat} {x : Int} (hj : l[j]? = some x) : ∃ g c, lv = .slice (some ⟨g, 0, none⟩) l.length c ∧ wr.cell? ⟨g, j, none⟩ = some (.int .i64 x) := by
  have hl := (List.getElem?_eq_some_iff.1 hj).1
  obtain ⟨a, c, rfl, h1, h2⟩ := row_slice h.row
  rcases h1 with h1 | ⟨g, rfl⟩
  · omega
  · exact ⟨g, c, rfl, row_cell h.row j _ (ints_at hj)⟩
theorem L2.sl {W0 wr : World} {b : Nat} {G : Gg} {d : Dg.D} {lv : Value} {l : List Int} (h : L2 W0 wr b G d lv l) : ∃ a c, lv = .slice a l.length c := by
  obtain ⟨a, c, rfl, h1, h2⟩ := row_slice h.row
  exact ⟨a, c, rfl⟩
theorem new_int (w : World) (x : Int) : ∀ j u, ([.int .i64 x] : List Value)[j]? = some u → (w.alloc (.cells #[.int .i64 x] 3)).cell? ((⟨w.heap.size, 0, none⟩ : Addr).add j) = some u := new_one w _ 3
end Go.Proofs.YtficijneelpmcaaGreat

namespace Go.Proofs.YtficijneelpmcaaGreat
open Go.RowKit

abbrev Ent := Ty.P × Value × Value
def Ent.cells (e : Ent) : List Value := tyC e.1.kind e.1.num e.1.row e.2.1 e.2.2
/-- Types in a slice that grows: its block is new since B, so are those of each type. -/
structure OutI (B : Nat) (wr : World) (v : Value) (es : List Ent) : Prop where
  row : wr.ownsRow 0 32 5 v es.length (es.flatMap Ent.cells)
  blk : ∀ k, v.ownBlock = some k → B ≤ k
  el : ∀ e ∈ es, ∃ n w1, Rb n w1 e.1 e.2.1 e.2.2 ∧ B ≤ n ∧ w1.heap.size ≤ wr.heap.size ∧ (∀ k, n ≤ k → k < w1.heap.size → wr.heap[k]? = w1.heap[k]?) ∧ ∀ k, v.ownBlock = some k → k < n ∨ w1.heap.size ≤ k
theorem OutI.nil (B : Nat) (w : World) : OutI B w (.slice none 0 0) [] := ⟨World.ownsRow_nil _ _ _ _, fun k hk => (by cases hk), fun e he => (by cases he)⟩
theorem OutI.ch {B : Nat} {wr w' : World} {v : Value} {es : List Ent} {O : Nat → Prop} (h : OutI B wr v es) (hc : Ch O wr w') (hO : ∀ k, O k → k < B) : OutI B w' v es := by
  have hs : ∀ k, B ≤ k → k < wr.heap.size → w'.heap[k]? = wr.heap[k]? := fun k h1 h2 => hc.same k h2 (fun h3 => by have := hO k h3; omega)
  refine ⟨ownsRow_keep h.row (fun k hk => hs k (h.blk k hk) (ownsRow_lt h.row hk)), h.blk, fun e he => ?_⟩
  obtain ⟨n, w1, h1, h2, h3, h4, h5⟩ := h.el e he
  exact ⟨n, w1, h1, h2, Nat.le_trans h3 hc.size, fun k h6 h7 => (hs k (by omega) (by omega)).trans (h4 k h6 h7), h5⟩
theorem flat_len (es : List Ent) : (es.flatMap Ent.cells).length = es.length * 5 := by
  induction es with
  | nil => rfl
  | cons e es ih => rw [List.flatMap_cons, List.length_append, ih, List.length_cons]; simp [Ent.cells]; omega
/-- One more type, told in new blocks, joins. -/
theorem OutI.app {B n : Nat} {w1 wr w3 : World} {v v' : Value} {es : List Ent} {t : Ty.P} {os az : Value} (h : OutI B wr v es) (hr : Rb n w1 t os az) (hn : B ≤ n) (h1 : w1.heap.size ≤ wr.heap.size) (hs : ∀ k, n ≤ k → k < w1.heap.size → wr.heap[k]? = w1.heap[k]?) (hv : ∀ k, v.ownBlock = some k → k < n ∨ w1.heap.size ≤ k)
    (hrow : w3.ownsRow 0 32 5 v' (es.length + 1) (es.flatMap Ent.cells ++ tyC t.kind t.num t.row os az)) (hgrow : wr.grownBy w3 v.ownBlock) (hblk : v'.ownBlock = v.ownBlock ∨ v'.ownBlock = some wr.heap.size) (hB : B ≤ wr.heap.size) : OutI B w3 v' (es ++ [(t, os, az)]) := by
  have hc : Ch (fun k => v.ownBlock = some k) wr w3 := Ch.grown hgrow (fun k hk => hk)
  have hv' : ∀ k, v'.ownBlock = some k → v.ownBlock = some k ∨ k = wr.heap.size := fun k hk => by
    rcases hblk with e | e
    · exact .inl (e ▸ hk)
    · rw [e] at hk; exact .inr (Option.some.inj hk).symm
  refine ⟨by simpa [Ent.cells] using hrow, fun k hk => ?_, fun e he => ?_⟩
  · rcases hv' k hk with h2 | rfl
    · exact h.blk k h2
    · exact hB
  · have key : ∀ (n : Nat) (w1 : World), w1.heap.size ≤ wr.heap.size → (∀ k, n ≤ k → k < w1.heap.size → wr.heap[k]? = w1.heap[k]?) → (∀ k, v.ownBlock = some k → k < n ∨ w1.heap.size ≤ k) →
        w1.heap.size ≤ w3.heap.size ∧ (∀ k, n ≤ k → k < w1.heap.size → w3.heap[k]? = w1.heap[k]?) ∧ ∀ k, v'.ownBlock = some k → k < n ∨ w1.heap.size ≤ k := by
      intro n w1 a1 a2 a3
      refine ⟨Nat.le_trans a1 hc.size, fun k h6 h7 => (hc.same k (by omega) (fun h8 => by have := a3 k h8; omega)).trans (a2 k h6 h7), fun k hk => ?_⟩
      rcases hv' k hk with h2 | rfl
      · exact a3 k h2
      · exact .inr a1
    rcases List.mem_append.1 he with he | he
    · obtain ⟨n, w1, b1, b2, b3, b4, b5⟩ := h.el e he
      obtain ⟨c1, c2, c3⟩ := key n w1 b3 b4 b5
      exact ⟨n, w1, b1, b2, c1, c2, c3⟩
    · obtain rfl := List.mem_singleton.1 he
      obtain ⟨c1, c2, c3⟩ := key n w1 h1 hs hv
      exact ⟨n, w1, hr, hn, c1, c2, c3⟩
theorem flat_at : ∀ {es : List Ent} {i : Nat} {e : Ent}, es[i]? = some e → ∀ j, j < 5 → (es.flatMap Ent.cells)[i * 5 + j]? = (Ent.cells e)[j]? := by
  intro es
  induction es with
  | nil => intro i e h; simp at h
  | cons x es ih =>
    intro i e h j hj
    have hl : (Ent.cells x).length = 5 := rfl
    cases i with
    | zero =>
      simp at h
      subst h
      rw [List.flatMap_cons, Nat.zero_mul, Nat.zero_add, List.getElem?_append_left (by omega)]
    | succ i =>
      rw [List.flatMap_cons, List.getElem?_append_right (by rw [hl]; omega), hl, show (i + 1) * 5 + j - 5 = i * 5 + j by omega]
      exact ih (by simpa using h) j hj
/-- Types in a slice, each of five cells. -/
def TysV (w : World) (v : Value) (l : List Ty.P) : Prop := ∃ a c, v = .slice a l.length c ∧ (l ≠ [] → ∃ g, a = some ⟨g, 0, none⟩ ∧ ∀ i t, l[i]? = some t → ∃ os az, El w g (i * 5) t.kind t.num t.row os az ∧ IsT w t os az)
theorem OutI.tys {B : Nat} {wr : World} {v : Value} {es : List Ent} (h : OutI B wr v es) : TysV wr v (es.map (·.1)) := by
  obtain ⟨a, c, rfl, h1, h2⟩ := row_slice h.row
  refine ⟨a, c, by simp, fun h0 => ?_⟩
  rcases h1 with h1 | ⟨g, rfl⟩
  · exact absurd (by simp [List.length_eq_zero_iff.1 h1]) h0
  · refine ⟨g, rfl, fun i t ht => ?_⟩
    obtain ⟨e, he, rfl⟩ : ∃ e, es[i]? = some e ∧ e.1 = t := by simpa using ht
    obtain ⟨n, w1, b1, b2, b3, b4, b5⟩ := h.el e (List.mem_of_getElem? he)
    have c := fun (j : Nat) (u : Value) (hj : j < 5) (hu : (Ent.cells e)[j]? = some u) => row_cell h.row (i * 5 + j) u ((flat_at he j hj).trans hu)
    exact ⟨e.2.1, e.2.2, ⟨c 0 _ (by omega) rfl, c 1 _ (by omega) rfl, c 2 _ (by omega) rfl, c 3 _ (by omega) rfl, c 4 _ (by omega) rfl⟩, b1.is wr (fun k h1 h2 => b4 k h1 h2)⟩
theorem TysV.keep {w w' : World} {v : Value} {l : List Ty.P} (h : TysV w v l) (hc : ∀ k, k < w.heap.size → w'.heap[k]? = w.heap[k]?) : TysV w' v l := by
  obtain ⟨a, c, h1, h2⟩ := h
  refine ⟨a, c, h1, fun h0 => ?_⟩
  obtain ⟨g, h3, h4⟩ := h2 h0
  refine ⟨g, h3, fun i t ht => ?_⟩
  obtain ⟨os, az, h5, h6⟩ := h4 i t ht
  exact ⟨os, az, h5.of_heap (hc g h5.lt), IsT.carry hc h6⟩
/-- What lies behind all that lay lies apart of a graph. -/
theorem out_ge {w : World} {b q : Nat} {G : Gg} {d : Dg.D} (h : GD w b G d) (hq : w.heap.size ≤ q) : G.out b q := by
  refine ⟨fun ho => by have := h.gm.lt ho; omega, fun i u hu e => ?_⟩
  have hi := (List.getElem?_eq_some_iff.1 hu).1
  have : i < d.ops.length := by rw [← h.ol]; exact hi
  obtain ⟨u', h1, h2, _⟩ := h.ov i d.ops[i] (List.getElem?_eq_getElem this)
  rw [hu] at h1
  obtain rfl := Option.some.inj h1
  obtain ⟨a, c, rfl, h3⟩ := h2
  rcases h3 with ⟨rfl, _⟩ | ⟨g, k, rfl, _, hg, _⟩
  · cases e
  · have : g = q := Option.some.inj e
    have := hg.lt
    omega
/-- What stands while types are told: the graph and the numbers' maps. -/
structure L5 (Ws wr : World) (b : Nat) (G : Gg) (d : Dg.D) (T R : Nat) (N : Dg.NM) : Prop where
  gd : GD Ws b G d
  oT : G.out b T
  oR : G.out b R
  ne : T ≠ R
  tB : T < Ws.heap.size
  rB : R < Ws.heap.size
  ch : Ch (isTR T R) Ws wr
  mT : MI wr T N.1
  mR : MI wr R N.2
theorem L5.now {Ws wr : World} {b : Nat} {G : Gg} {d : Dg.D} {T R : Nat} {N : Dg.NM} (h : L5 Ws wr b G d T R N) : GD wr b G d ∧ Nm2 wr b G T R N := by
  refine ⟨h.gd.apart h.ch (fun k hk e => ?_) (fun i u k hu hk e => ?_), ⟨h.oT, h.oR, h.ne, h.mT, h.mR⟩⟩
  · rcases e with rfl | rfl
    · exact h.oT.1 hk
    · exact h.oR.1 hk
  · rcases e with rfl | rfl
    · exact h.oT.2 i u hu hk
    · exact h.oR.2 i u hu hk
theorem L5.step {Ws wr w' : World} {b : Nat} {G : Gg} {d : Dg.D} {T R : Nat} {N N' : Dg.NM} {O : Nat → Prop} (h : L5 Ws wr b G d T R N) (hc : Ch O wr w') (hO : ∀ k, O k → isTR T R k ∨ Ws.heap.size ≤ k) (mT : MI w' T N'.1) (mR : MI w' R N'.2) : L5 Ws w' b G d T R N' :=
  ⟨h.gd, h.oT, h.oR, h.ne, h.tB, h.rB, h.ch.trans hc hO, mT, mR⟩
end Go.Proofs.YtficijneelpmcaaGreat
