/-
  The document's number, Round, Parts, Fresh.
  How the document puts types into its graph: what is put (plain); its maps; names that are taken over.
  The document's Of.
  The document's Of: lists, pairs.
  The document's Of: functions; any type.
  How the document tells types: plain; types in blocks that are new; how a type joins a slice of types.
  The document's Told: variables and what has no kids.
  The document's Told: lists.
-/
import Derived.Test.YtcogpcalghfghaaMDm
import Derived.WideMake
import Derived.Test.YtcogpcalghfghaaMTy
import Derived.Deep.RegionHeld3
set_option linter.unusedVariables false
set_option linter.unusedSimpArgs false
namespace Go.Proofs.Ytcogpcalghfghaa
open Go.RowKit

namespace Dg
def number (m : List (Int × Int)) (n : Int) : Int × List (Int × Int) := match m.lookup n with
  | some k => (k, m)
  | none => ((m.length : Int) + 1, mput n ((m.length : Int) + 1) m)
end Dg
theorem MI.new (w : World) : MI (w.alloc (.map #[] 0)) w.heap.size [] := ⟨#[], 0, World.alloc_heap_new w _, rfl⟩
/-- The document's graph as it is at first. -/
def Dg.empty : Dg.D := ⟨[], [], [], [], [], [[]], [0], [], []⟩
end Go.Proofs.Ytcogpcalghfghaa

namespace Go.Proofs.Ytcogpcalghfghaa
open Go.RowKit

namespace Dg
/-- The row variable of a type, a new one perhaps. -/
def rowVar (r : Nat) (d : D) : Int × D := if r = 0 then (0, d) else match d.rv.lookup (r : Int) with
  | some n => (n, d)
  | none => ((d.ops.length : Int), { d.putRow [] (-1) with rv := mput (r : Int) (d.ops.length : Int) d.rv })
/-- A type is put into the document's graph. -/
def of : Ty.P → D → Int × D
  | .var n, d => match d.tv.lookup (n : Int) with
    | some k => (k, d)
    | none => ((d.kind.length : Int), { d.put 0 (-1) (-1) 0 with tv := mput (n : Int) (d.kind.length : Int) d.tv })
  | .int, d => ((d.kind.length : Int), d.put 1 (-1) (-1) 0)
  | .bool, d => ((d.kind.length : Int), d.put 2 (-1) (-1) 0)
  | .unit, d => ((d.kind.length : Int), d.put 3 (-1) (-1) 0)
  | .list a, d => (((of a d).2.kind.length : Int), (of a d).2.put 4 (of a d).1 (-1) 0)
  | .pair a b, d => (((of b (of a d).2).2.kind.length : Int), (of b (of a d).2).2.put 5 (of a d).1 (of b (of a d).2).1 0)
  | .fn a b o r, d =>
    let x := of a d
    let y := of b x.2
    let z := rowVar r y.2
    let u := z.2.putRow o z.1
    ((u.kind.length : Int), u.put 6 x.1 y.1 (z.2.ops.length : Int))
/-- There is room for so many more. -/
structure D.room (d : D) (N : Nat) : Prop where
  r0 : d.kind.length + N < big
  r1 : d.a.length + N < big
  r2 : d.b.length + N < big
  r3 : d.row.length + N < big
  r4 : d.link.length + N < big
  r5 : d.ops.length + N < big
  r6 : d.next.length + N < big
theorem D.room.small {d : D} {N : Nat} (h : d.room N) : d.small := ⟨by have := h.r0; omega, by have := h.r1; omega, by have := h.r2; omega, by have := h.r3; omega, by have := h.r4; omega, by have := h.r5; omega, by have := h.r6; omega⟩
theorem D.room.le {d : D} {N M : Nat} (h : d.room N) (hm : M ≤ N) : d.room M := ⟨by have := h.r0; omega, by have := h.r1; omega, by have := h.r2; omega, by have := h.r3; omega, by have := h.r4; omega, by have := h.r5; omega, by have := h.r6; omega⟩
theorem D.room.put {d : D} {N : Nat} (h : d.room (N + 1)) (k a b r : Int) : (d.put k a b r).room N := by
  obtain ⟨h0, h1, h2, h3, h4, h5, h6⟩ := h
  constructor <;> simp only [D.put, List.length_append, List.length_cons, List.length_nil] <;> omega
theorem D.room.putRow {d : D} {N : Nat} (h : d.room (N + 1)) (o : List Un.Nm) (x : Int) : (d.putRow o x).room N := by
  obtain ⟨h0, h1, h2, h3, h4, h5, h6⟩ := h
  constructor <;> simp only [D.putRow, List.length_append, List.length_cons, List.length_nil] <;> omega
theorem D.room.tv {d : D} {N : Nat} (h : d.room N) (m : List (Int × Int)) : D.room { d with tv := m } N := ⟨h.r0, h.r1, h.r2, h.r3, h.r4, h.r5, h.r6⟩
theorem D.room.rv {d : D} {N : Nat} (h : d.room N) (m : List (Int × Int)) : D.room { d with rv := m } N := ⟨h.r0, h.r1, h.r2, h.r3, h.r4, h.r5, h.r6⟩
end Dg
end Go.Proofs.Ytcogpcalghfghaa

namespace Go.Proofs.Ytcogpcalghfghaa
open Go.RowKit

theorem Ch.keeps {O : Nat → Prop} {w w' : World} (h : Ch O w w') {k : Nat} {o : Obj} (hk : w.heap[k]? = some o) (hO : ¬ O k) : w'.heap[k]? = some o := (h.same k (Array.getElem?_eq_some_iff.1 hk).1 hO).trans hk
abbrev tyV (k n r : Int) (os az : Value) : Value := .agg #[.int .i64 k, .int .i64 n, .int .i64 r, os, az]
abbrev tyB (k n r : Int) (os az : Value) : Obj := .cells #[.int .i64 k, .int .i64 n, .int .i64 r, os, az] 27
end Go.Proofs.Ytcogpcalghfghaa

namespace Go.Proofs.Ytcogpcalghfghaa
open Go.RowKit

/-- The cells of a boxed type. -/
def Bx (w : World) (x : Nat) (k n r : Int) (os az : Value) : Prop := w.heap[x]? = some (tyB k n r os az)
theorem Bx.cells {w : World} {x : Nat} {k n r : Int} {os az : Value} (h : Bx w x k n r os az) : w.cell? ⟨x, 0, none⟩ = some (.int .i64 k) ∧ w.cell? ⟨x, 1, none⟩ = some (.int .i64 n) ∧ w.cell? ⟨x, 2, none⟩ = some (.int .i64 r) ∧ w.cell? ⟨x, 3, none⟩ = some os ∧ w.cell? ⟨x, 4, none⟩ = some az := by
  unfold Bx at h
  refine ⟨?_, ?_, ?_, ?_, ?_⟩ <;> (unfold World.cell?; rw [h]; rfl)
theorem Bx.new (w : World) (k n r : Int) (os az : Value) : Bx (w.alloc (tyB k n r os az)) w.heap.size k n r os az := World.alloc_heap_new w _
theorem Bx.keep {O : Nat → Prop} {w w' : World} {x : Nat} {k n r : Int} {os az : Value} (h : Bx w x k n r os az) (hc : Ch O w w') (hO : ¬ O x) : Bx w' x k n r os az := hc.keeps h hO
theorem More.not {w : World} {O O' : Nat → Prop} (h : More w O O') {x : Nat} (hx : ¬ O x) (hl : x < w.heap.size) : ¬ O' x := fun e => by
  rcases h x e with e | e
  · exact hx e
  · omega

end Go.Proofs.Ytcogpcalghfghaa

namespace Go.Proofs.Ytcogpcalghfghaa
open Go.RowKit

section
variable {ops : Array Oper} {rest : List Oper} {o : Oper} {a : Act} {w : World} {Q : Exit → Act → World → Prop}
end
theorem Fresh.empty (w : World) : Fresh w (w.alloc (.cells #[] 9)) (.slice (some ⟨w.heap.size, 0, none⟩) 0 0) [] :=
  ⟨⟨rfl, .inr ⟨w.heap.size, 0, #[], rfl, Nat.zero_le _, World.alloc_heap_new w _, Nat.le_refl _, Nat.zero_le _, rfl, rfl⟩⟩, al_ch w _, fun k hk => by
    have : w.heap.size = k := Option.some.inj hk
    omega⟩
end Go.Proofs.Ytcogpcalghfghaa

namespace Go.Proofs.Ytcogpcalghfghaa
open Go.RowKit

namespace Dg
abbrev NM := List (Int × Int) × List (Int × Int)
/-- The number of a row's variable; 0: there is none. -/
def rowNum (v : Int) (m : List (Int × Int)) : Option (Nat × List (Int × Int)) := if 0 < v then (if 0 ≤ (number m v).1 ∧ m.length < big then some ((number m v).1.toNat, (number m v).2) else none) else some (0, m)
def told (f : Nat) : Nat → D → Int → NM → Option (Ty.P × NM)
  | 0, _, _, _ => none
  | k + 1, d, n, N => (find f d.link n).bind fun n => (at? d.kind n).bind fun kd =>
    if kd = 0 then (if 0 ≤ (number N.1 n).1 ∧ N.1.length < big then some (.var (number N.1 n).1.toNat, ((number N.1 n).2, N.2)) else none) else
    (at? d.a n).bind fun a => (at? d.b n).bind fun b =>
    if kd = 1 ∧ a < 0 ∧ b < 0 then some (.int, N) else
    if kd = 2 ∧ a < 0 ∧ b < 0 then some (.bool, N) else
    if kd = 3 ∧ a < 0 ∧ b < 0 then some (.unit, N) else
    if kd = 4 ∧ 0 ≤ a ∧ b < 0 then (told f k d a N).bind fun x => some (.list x.1, x.2) else
    if kd = 5 ∧ 0 ≤ a ∧ 0 ≤ b then (told f k d a N).bind fun x => (told f k d b x.2).bind fun y => some (.pair x.1 y.1, y.2) else
    if kd = 6 ∧ 0 ≤ a ∧ 0 ≤ b then (told f k d a N).bind fun x => (at? d.row n).bind fun r => (whole f d r []).bind fun p => (rowNum p.2 x.2.2).bind fun q => (told f k d b (x.2.1, q.2)).bind fun y => some (.fn x.1 y.1 p.1 q.1, y.2) else none
end Dg
abbrev tyC (k n r : Int) (os az : Value) : List Value := [.int .i64 k, .int .i64 n, .int .i64 r, os, az]
def isSl (v : Value) : Prop := ∃ a n c, v = .slice a n c
theorem Try.infoType : (Try.prog.info? 27).map (fun i => (i.zero, i.size, i.bytes)) = some (some (.agg #[.int .i64 0, .int .i64 0, .int .i64 0, .slice none 0 0, .slice none 0 0]), 5, 72) := by kernel_rfl
theorem run_append_ty {w : World} {v : Value} {n : Nat} {xs : List Value} (hown : w.ownsRow 0 27 5 v n xs) {x : Nat} {k m r : Int} {os az : Value} (hx : w.heap[x]? = some (.cells #[.int .i64 k, .int .i64 m, .int .i64 r, os, az] 27 (0, 0))) (ho : isSl os) (ha : isSl az) (hn : n < 1000) (ty : TypeId) :
    ∃ v' w', (Builtin.append_ #[25, 25] ty #[v, .slice (some ⟨x, 0, none⟩) 1 1]).run Try.prog w = .ok v' w' ∧ w'.ownsRow 0 27 5 v' (n + 1) (xs ++ tyC k m r os az) ∧ w.grownBy w' v.ownBlock ∧ (v'.ownBlock = v.ownBlock ∨ v'.ownBlock = some w.heap.size) := by
  obtain ⟨i, hi, hzz⟩ := Option.map_eq_some_iff.1 Try.infoType
  simp only [Prod.mk.injEq] at hzz
  obtain ⟨hz, hs, hb⟩ := hzz
  obtain ⟨oa, on, oc, rfl⟩ := ho
  obtain ⟨aa, an, ac, rfl⟩ := ha
  obtain ⟨v', w', hr, h4, h5, h6, h7⟩ := run_append_own_at (P := Try.prog) w 0 25 ty 27 i _ 5 72 Try.underlying25 hi hz hs hb rfl (by decide) v n xs hown ⟨x, 0, none⟩ 1 1 (tyC k m r (.slice oa on oc) (.slice aa an ac)) rfl (fun j u hj => by
    rw [at_plain]
    unfold World.cell?
    rw [hx]
    have : j = 0 ∨ j = 1 ∨ j = 2 ∨ j = 3 ∨ j = 4 := by
      have := (List.getElem?_eq_some_iff.1 hj).1
      simp at this
      omega
    rcases this with rfl | rfl | rfl | rfl | rfl <;> (simp at hj; subst hj; rfl)) (fun u hu => by
    simp at hu
    rcases hu with rfl | rfl | rfl | rfl | rfl <;> rfl) (by unfold maxLen; omega) (by omega) (Nat.zero_le _)
  exact ⟨v', w', hr, h4, h5, h7⟩
/-- A type that lies in blocks from a number on. -/
structure Rb (n : Nat) (w : World) (t : Ty.P) (os az : Value) : Prop where
  so : isSl os
  sa : isSl az
  is : ∀ w' : World, (∀ k, n ≤ k → k < w.heap.size → w'.heap[k]? = w.heap[k]?) → IsT w' t os az
theorem Rb.keep {n : Nat} {w w' : World} {t : Ty.P} {os az : Value} (h : Rb n w t os az) (hs : ∀ k, n ≤ k → k < w.heap.size → w'.heap[k]? = w.heap[k]?) (hz : w.heap.size ≤ w'.heap.size) : Rb n w' t os az :=
  ⟨h.so, h.sa, fun w2 h2 => h.is w2 fun k h3 h4 => (h2 k h3 (Nat.lt_of_lt_of_le h4 hz)).trans (hs k h3 h4)⟩
theorem Rb.le {n m : Nat} {w : World} {t : Ty.P} {os az : Value} (h : Rb n w t os az) (hm : m ≤ n) : Rb m w t os az := ⟨h.so, h.sa, fun w2 h2 => h.is w2 fun k h3 h4 => h2 k (Nat.le_trans hm h3) h4⟩
theorem Rb.ch {n : Nat} {w w' : World} {O : Nat → Prop} {t : Ty.P} {os az : Value} (h : Rb n w t os az) (hc : Ch O w w') (hO : ∀ k, n ≤ k → k < w.heap.size → ¬ O k) : Rb n w' t os az := h.keep (fun k h1 h2 => hc.same k h2 (hO k h1 h2)) hc.size
theorem nul_sl {v : Value} (h : Nul v) : isSl v := by obtain ⟨a, c, rfl⟩ := h; exact ⟨_, _, _, rfl⟩
/-- Cells of a row of types. -/
structure TyRow (n : Nat) (w : World) (v : Value) (m : Nat) (xs : List Value) : Prop where
  own : w.ownsRow 0 27 5 v m xs
  blk : ∀ k, v.ownBlock = some k → n ≤ k
theorem TyRow.nil (n : Nat) (w : World) : TyRow n w (.slice none 0 0) 0 [] := ⟨World.ownsRow_nil _ _ _ _, fun k hk => by cases hk⟩
theorem TyRow.ch {n : Nat} {w w' : World} {O : Nat → Prop} {v : Value} {m : Nat} {xs : List Value} (h : TyRow n w v m xs) (hc : Ch O w w') (hO : ∀ k, v.ownBlock = some k → ¬ O k) : TyRow n w' v m xs :=
  ⟨ownsRow_keep h.own (fun k hk => hc.same k (ownsRow_lt h.own hk) (hO k hk)), h.blk⟩
theorem TyRow.sl {n : Nat} {w : World} {v : Value} {m : Nat} {xs : List Value} (h : TyRow n w v m xs) : isSl v := by
  obtain ⟨a, c, e, _⟩ := row_slice h.own
  exact ⟨_, _, _, e⟩
theorem TyRow.cells {n : Nat} {w w' : World} {v : Value} {m : Nat} {xs : List Value} (h : TyRow n w v (m + 1) xs) (hs : ∀ k, n ≤ k → k < w.heap.size → w'.heap[k]? = w.heap[k]?) : ∃ g c, v = .slice (some ⟨g, 0, none⟩) (m + 1) c ∧ m + 1 ≤ c ∧ ∀ j u, xs[j]? = some u → w'.cell? ⟨g, j, none⟩ = some u := by
  have hown := h.own
  obtain ⟨g, c, rfl⟩ := ownsRow_succ hown
  have hg : n ≤ g := h.blk g rfl
  have hown' := ownsRow_keep (w' := w') hown (fun k hk => by
    have : g = k := Option.some.inj hk
    subst this
    exact hs g hg (ownsRow_lt hown rfl))
  obtain ⟨a, c', e, _, hc⟩ := row_slice hown
  simp only [Value.slice.injEq, true_and] at e
  obtain ⟨_, rfl⟩ := e
  exact ⟨g, c, rfl, hc, fun j u hj => row_cell hown' j u hj⟩
theorem Rb.leaf {n : Nat} {w : World} {t : Ty.P} {os az : Value} (ht : t.kind ≤ 3) (ho : Nul os) (ha : Nul az) : Rb n w t os az :=
  ⟨nul_sl ho, nul_sl ha, fun w' _ => by cases t <;> first | exact ⟨ho, ha⟩ | (simp [Ty.P.kind] at ht)⟩
theorem Rb.list {n : Nat} {w : World} {t : Ty.P} {os az os' az' : Value} (ho : Nul os) (h : Rb n w t os' az') (hr : TyRow n w az 1 (tyC t.kind t.num t.row os' az')) : Rb n w (.list t) os az :=
  ⟨nul_sl ho, hr.sl, fun w' hs => by
    obtain ⟨g, c, rfl, hc, hx⟩ := hr.cells hs
    exact ⟨ho, g, 0, c, os', az', rfl, hc, ⟨hx 0 _ rfl, hx 1 _ rfl, hx 2 _ rfl, hx 3 _ rfl, hx 4 _ rfl⟩, h.is w' hs⟩⟩
theorem Rb.pair {n : Nat} {w : World} {t t2 : Ty.P} {os az os' az' os2 az2 : Value} (ho : Nul os) (h : Rb n w t os' az') (h2 : Rb n w t2 os2 az2) (hr : TyRow n w az 2 (tyC t.kind t.num t.row os' az' ++ tyC t2.kind t2.num t2.row os2 az2)) : Rb n w (.pair t t2) os az :=
  ⟨nul_sl ho, hr.sl, fun w' hs => by
    obtain ⟨g, c, rfl, hc, hx⟩ := hr.cells hs
    exact ⟨ho, g, 0, c, os', az', os2, az2, rfl, hc, ⟨hx 0 _ rfl, hx 1 _ rfl, hx 2 _ rfl, hx 3 _ rfl, hx 4 _ rfl⟩, h.is w' hs, ⟨hx 5 _ rfl, hx 6 _ rfl, hx 7 _ rfl, hx 8 _ rfl, hx 9 _ rfl⟩, h2.is w' hs⟩⟩
theorem Rb.fn {n : Nat} {w : World} {t t2 : Ty.P} {os az os' az' os2 az2 : Value} {l : List (List UInt8)} {r : Nat} (ho : w.ownsRow 0 9 1 os l.length (strs l)) (hb : ∀ k, os.ownBlock = some k → n ≤ k) (h : Rb n w t os' az') (h2 : Rb n w t2 os2 az2) (hr : TyRow n w az 2 (tyC t.kind t.num t.row os' az' ++ tyC t2.kind t2.num t2.row os2 az2)) : Rb n w (.fn t t2 l r) os az :=
  ⟨by obtain ⟨a, c, e, _⟩ := row_slice ho; exact ⟨_, _, _, e⟩, hr.sl, fun w' hs => by
    obtain ⟨g, c, rfl, hc, hx⟩ := hr.cells hs
    refine ⟨?_, g, 0, c, os', az', os2, az2, rfl, hc, ⟨hx 0 _ rfl, hx 1 _ rfl, hx 2 _ rfl, hx 3 _ rfl, hx 4 _ rfl⟩, h.is w' hs, ⟨hx 5 _ rfl, hx 6 _ rfl, hx 7 _ rfl, hx 8 _ rfl, hx 9 _ rfl⟩, h2.is w' hs⟩
    have ho' := ownsRow_keep (w' := w') ho (fun k hk => hs k (hb k hk) (ownsRow_lt ho hk))
    obtain ⟨a, c2, e, ha, hc2⟩ := row_slice ho'
    refine ⟨a, c2, e, hc2, fun hl => ?_⟩
    rcases ha with ha | ⟨g2, rfl⟩
    · exact absurd (List.length_eq_zero_iff.1 ha) hl
    · refine ⟨g2, 0, rfl, fun i hi => ?_⟩
      rw [e] at ho'
      rw [Nat.zero_add]
      exact row_cell ho' i _ (by simp [strs, hi])⟩
end Go.Proofs.Ytcogpcalghfghaa

namespace Go.Proofs.Ytcogpcalghfghaa
open Go.RowKit

abbrev nmB (T R : Nat) : Obj := .cells #[.map (some T), .map (some R)] 99035
abbrev ty0 (k : Int) : Obj := tyB k 0 0 (.slice none 0 0) (.slice none 0 0)
/-- The blocks of a call of Told. -/
abbrev W3 (w : World) (T R : Nat) (kd : Int) : World := ((w.alloc (nmB T R)).alloc (ty0 0)).alloc (ty0 kd)
theorem W3.ch (w : World) (T R : Nat) (kd : Int) : Ch (fun _ => False) w (W3 w T R kd) := ((al_ch w _).al _).al _
theorem W3.size (w : World) (T R : Nat) (kd : Int) : (W3 w T R kd).heap.size = w.heap.size + 3 := by simp [W3]
theorem W3.b0 (w : World) (T R : Nat) (kd : Int) : (W3 w T R kd).heap[w.heap.size]? = some (nmB T R) := blk_alloc (blk_alloc (World.alloc_heap_new w _))
theorem W3.b1 (w : World) (T R : Nat) (kd : Int) : (W3 w T R kd).heap[w.heap.size + 1]? = some (ty0 0) := by
  have h := World.alloc_heap_new (w.alloc (nmB T R)) (ty0 0)
  refine blk_alloc ?_
  simpa using h
theorem W3.b2 (w : World) (T R : Nat) (kd : Int) : (W3 w T R kd).heap[w.heap.size + 1 + 1]? = some (ty0 kd) := by
  have h := World.alloc_heap_new ((w.alloc (nmB T R)).alloc (ty0 0)) (ty0 kd)
  simpa using h
abbrev isTR (T R : Nat) : Nat → Prop := fun j => j = T ∨ j = R
theorem nul0 : Nul (.slice none 0 0) := ⟨none, 0, rfl⟩

theorem ty_cells {w : World} {x : Nat} {k n r : Int} {os az : Value} (h : w.heap[x]? = some (tyB k n r os az)) : (w.cell? ⟨x, 0, none⟩ = some (.int .i64 k) ∧ w.cell? ⟨x, 1, none⟩ = some (.int .i64 n) ∧ w.cell? ⟨x, 2, none⟩ = some (.int .i64 r) ∧ w.cell? ⟨x, 3, none⟩ = some os ∧ w.cell? ⟨x, 4, none⟩ = some az) ∧ ∀ i, w.frozen? ⟨x, i, none⟩ = false :=
  ⟨Bx.cells h, fun i => by unfold World.frozen?; rw [h]; simp⟩
theorem ty_set {w : World} {x i : Nat} {k n r : Int} {os az v : Value} {o : Obj} (h : w.heap[x]? = some (tyB k n r os az)) (ho : Obj.cells (#[.int .i64 k, .int .i64 n, .int .i64 r, os, az].setIfInBounds i v) 27 (0, 0) = o) : (w.setCell ⟨x, i, none⟩ v).heap[x]? = some o := by
  rw [blk_set h, ← ho]
abbrev set5 (w : World) (x : Nat) (k n r : Int) (os az : Value) : World := ((((w.setCell ⟨x, 0, none⟩ (.int .i64 k)).setCell ⟨x, 1, none⟩ (.int .i64 n)).setCell ⟨x, 2, none⟩ (.int .i64 r)).setCell ⟨x, 3, none⟩ os).setCell ⟨x, 4, none⟩ az
theorem set5_blk {w : World} {x : Nat} {k n r k' n' r' : Int} {os az os' az' : Value} (h : w.heap[x]? = some (tyB k n r os az)) : (set5 w x k' n' r' os' az').heap[x]? = some (tyB k' n' r' os' az') :=
  ty_set (ty_set (ty_set (ty_set (ty_set h rfl) rfl) rfl) rfl) rfl
theorem Ch.setX {O : Nat → Prop} {w w' : World} (h : Ch O w w') (x i : Nat) (v : Value) (hx : O x ∨ w.heap.size ≤ x) : Ch O w (w'.setCell ⟨x, i, none⟩ v) := by
  refine h.trans (O1 := fun j => j = x) (Ch.setCell w' ⟨x, i, none⟩ v rfl) ?_
  rintro j rfl
  exact hx
theorem set5_ch {O : Nat → Prop} {w w' : World} (h : Ch O w w') {x : Nat} {k n r : Int} {os az : Value} (hx : O x ∨ w.heap.size ≤ x) : Ch O w (set5 w' x k n r os az) :=
  ((((h.setX x 0 _ hx).setX x 1 _ hx).setX x 2 _ hx).setX x 3 _ hx).setX x 4 _ hx
end Go.Proofs.Ytcogpcalghfghaa

namespace Go.Proofs.Ytcogpcalghfghaa
open Go.RowKit

theorem cell_ch {O : Nat → Prop} {w w' : World} (hc : Ch O w w') {x i : Nat} {v : Value} (h : w.cell? ⟨x, i, none⟩ = some v) (hO : ¬ O x) : w'.cell? ⟨x, i, none⟩ = some v := by
  have hx := World.block_lt_of_cell? w ⟨x, i, none⟩ h
  unfold World.cell? at h ⊢
  rw [hc.same x hx hO]
  exact h
theorem step_append_run {P : Program} {ops : Array Oper} {o : Oper} {a : Act} {w w' : World} {v q v' : Value} {K : Act → World → Prop} {Q : Exit → Act → World → Prop} {E : Prop} (hg : o.guard = none) (s x : Operand) (t : TypeId) (hop : o.op = Op.call { callee := Callee.builtin Builtin.append, args := #[s, x], argTypes := #[t, t] })
    (hs : a.eval s = v) (hx : a.eval x = q) (hr : (Builtin.append_ #[t, t] o.type #[v, q]).run P w = .ok v' w') (hK : K (a.put o.dst v') w') : if Region.wanted o (yielded ops a.tmps) = true then Oper.wp P o a w K Q else E := by
  have hw : Region.wanted o (yielded ops a.tmps) = true := by simp [Region.wanted, hg]
  rw [if_pos hw]
  unfold Oper.wp execOp
  simp only [hop, resolve, invoke, builtin, Sem.run_bind, Sem.run_pure, Result.andThen_ok, List.map_toArray, List.map_cons, List.map_nil, hs, hx, hr]
  exact hK

end Go.Proofs.Ytcogpcalghfghaa
