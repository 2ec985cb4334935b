/-
  Proper types, and how one is written, said by plain functions; no program is named here.
  Types in memory: what a value of the type api.Type reads as; how that is carried from world to world.
-/
import Derived.WalkKit
import Derived.ProofKit
set_option linter.unusedVariables false
set_option linter.unusedSimpArgs false
namespace Go.Proofs.Ytcogpcalghfghaa
namespace Ty

inductive P where
  | var (n : Nat)
  | int
  | bool
  | unit
  | list (a : P)
  | pair (a b : P)
  | fn (a b : P) (ops : List (List UInt8)) (row : Nat)

def P.kind : P → Nat
  | .var _ => 0
  | .int => 1
  | .bool => 2
  | .unit => 3
  | .list _ => 4
  | .pair _ _ => 5
  | .fn _ _ _ _ => 6
def P.num : P → Nat
  | .var n => n
  | _ => 0
def P.row : P → Nat
  | .fn _ _ _ r => r
  | _ => 0
def P.ops : P → List (List UInt8)
  | .fn _ _ o _ => o
  | _ => []
def P.parts : P → Nat
  | .list a => 1 + a.parts
  | .pair a b => 1 + a.parts + b.parts
  | .fn a b o _ => 1 + o.length + a.parts + b.parts
  | _ => 1

/-- Names in the order of their bytes. -/
def inOrder : List (List UInt8) → Prop
  | x :: y :: r => ¬ y < x ∧ inOrder (y :: r)
  | _ => True

/-- All else that a proper type keeps to. -/
def P.ok : P → Prop
  | .var n => 1 ≤ n ∧ n ≤ 1000000000
  | .list a => a.ok
  | .pair a b => a.ok ∧ b.ok
  | .fn a b o r => a.ok ∧ b.ok ∧ r ≤ 1000000000 ∧ (∀ x ∈ o, x ≠ []) ∧ inOrder o
  | _ => True

theorem P.parts_pos (t : P) : 1 ≤ t.parts := by
  cases t <;> simp [P.parts] <;> omega

end Ty
end Go.Proofs.Ytcogpcalghfghaa

namespace Go.Proofs.Ytcogpcalghfghaa
open Go.RowKit

/-- A slice of length zero. -/
def Nul (v : Value) : Prop := ∃ a c, v = .slice a 0 c
/-- Names in a slice. -/
def OpsV (w : World) (v : Value) (o : List (List UInt8)) : Prop :=
  ∃ (a : Option Addr) (c : Nat), v = .slice a o.length c ∧ o.length ≤ c ∧ (o ≠ [] → ∃ g k, a = some ⟨g, k, none⟩ ∧ ∀ i (h : i < o.length), w.cell? ⟨g, k + i, none⟩ = some (.string ⟨o[i].toArray⟩))
/-- Five cells of a type in a block. -/
def El (w : World) (g o : Nat) (k n r : Int) (os az : Value) : Prop :=
  w.cell? ⟨g, o, none⟩ = some (.int .i64 k) ∧ w.cell? ⟨g, o + 1, none⟩ = some (.int .i64 n) ∧ w.cell? ⟨g, o + 2, none⟩ = some (.int .i64 r) ∧
  w.cell? ⟨g, o + 3, none⟩ = some os ∧ w.cell? ⟨g, o + 4, none⟩ = some az
def ElT (w : World) (g o : Nat) (t : Ty.P) (os az : Value) : Prop := El w g o t.kind t.num t.row os az
/-- What the slices of a type lead to. -/
def IsT (w : World) : Ty.P → Value → Value → Prop
  | .list a, os, az => Nul os ∧ ∃ g o c os' az', az = .slice (some ⟨g, o, none⟩) 1 c ∧ 1 ≤ c ∧ ElT w g o a os' az' ∧ IsT w a os' az'
  | .pair a b, os, az => Nul os ∧ ∃ g o c os' az' os2 az2, az = .slice (some ⟨g, o, none⟩) 2 c ∧ 2 ≤ c ∧ ElT w g o a os' az' ∧ IsT w a os' az' ∧ ElT w g (o + 5) b os2 az2 ∧ IsT w b os2 az2
  | .fn a b l _, os, az => OpsV w os l ∧ ∃ g o c os' az' os2 az2, az = .slice (some ⟨g, o, none⟩) 2 c ∧ 2 ≤ c ∧ ElT w g o a os' az' ∧ IsT w a os' az' ∧ ElT w g (o + 5) b os2 az2 ∧ IsT w b os2 az2
  | _, os, az => Nul os ∧ Nul az

/-- What can be read to a depth: whatever type it is. -/
def Rdb (w : World) : Nat → Value → Value → Prop
  | 0, _, _ => True
  | n + 1, os, az => (∃ o : List (List UInt8), OpsV w os o) ∧
      ∃ (a : Option Addr) (l c : Nat), az = .slice a l c ∧ l ≤ c ∧ (l ≠ 0 → ∃ g o, a = some ⟨g, o, none⟩ ∧ ∀ i, i < l → ∃ k m r os' az', El w g (o + i * 5) k m r os' az' ∧ Rdb w n os' az')

theorem El.lt {w : World} {g o : Nat} {k n r : Int} {os az : Value} (h : El w g o k n r os az) : g < w.heap.size := World.block_lt_of_cell? w ⟨g, o, none⟩ h.1
theorem El.of_heap {w w' : World} {g o : Nat} {k n r : Int} {os az : Value} (h : El w g o k n r os az) (hh : w'.heap[g]? = w.heap[g]?) : El w' g o k n r os az := by
  obtain ⟨h0, h1, h2, h3, h4⟩ := h
  exact ⟨(World.cell?_of_block (a := ⟨g, _, none⟩) hh).trans h0, (World.cell?_of_block (a := ⟨g, _, none⟩) hh).trans h1, (World.cell?_of_block (a := ⟨g, _, none⟩) hh).trans h2,
    (World.cell?_of_block (a := ⟨g, _, none⟩) hh).trans h3, (World.cell?_of_block (a := ⟨g, _, none⟩) hh).trans h4⟩
theorem OpsV.carry {w w' : World} {v : Value} {o : List (List UInt8)} (h : OpsV w v o) (hw : ∀ b, b < w.heap.size → w'.heap[b]? = w.heap[b]?) : OpsV w' v o := by
  obtain ⟨a, c, h1, h2, h3⟩ := h
  refine ⟨a, c, h1, h2, fun h0 => ?_⟩
  obtain ⟨g, k, ha, hc⟩ := h3 h0
  have hlt : g < w.heap.size := World.block_lt_of_cell? w ⟨g, k + 0, none⟩ (hc 0 (List.length_pos_iff.2 h0))
  exact ⟨g, k, ha, fun i hi => (World.cell?_of_block (a := ⟨g, k + i, none⟩) (hw g hlt)).trans (hc i hi)⟩
theorem IsT.carry {w w' : World} (hw : ∀ b, b < w.heap.size → w'.heap[b]? = w.heap[b]?) : ∀ {t : Ty.P} {os az : Value}, IsT w t os az → IsT w' t os az := by
  intro t
  induction t with
  | var n => intro os az h; exact h
  | int => intro os az h; exact h
  | bool => intro os az h; exact h
  | unit => intro os az h; exact h
  | list a ih =>
    rintro os az ⟨h0, g, o, c, os', az', h1, h2, h3, h4⟩
    exact ⟨h0, g, o, c, os', az', h1, h2, El.of_heap h3 (hw g (El.lt h3)), ih h4⟩
  | pair a b iha ihb =>
    rintro os az ⟨h0, g, o, c, os', az', os2, az2, h1, h2, h3, h4, h5, h6⟩
    exact ⟨h0, g, o, c, os', az', os2, az2, h1, h2, El.of_heap h3 (hw g (El.lt h3)), iha h4, El.of_heap h5 (hw g (El.lt h5)), ihb h6⟩
  | fn a b l r iha ihb =>
    rintro os az ⟨h0, g, o, c, os', az', os2, az2, h1, h2, h3, h4, h5, h6⟩
    exact ⟨h0.carry hw, g, o, c, os', az', os2, az2, h1, h2, El.of_heap h3 (hw g (El.lt h3)), iha h4, El.of_heap h5 (hw g (El.lt h5)), ihb h6⟩
theorem IsT.past {w w' : World} {t : Ty.P} {os az : Value} (h : IsT w t os az) (hb : Below w.heap.size w w') : IsT w' t os az := IsT.carry hb.block h
theorem IsT.alloc {w : World} {t : Ty.P} {os az : Value} (h : IsT w t os az) (o : Obj) : IsT (w.alloc o) t os az := h.past ((Below.refl _ _).alloc (Nat.le_refl _) _)
theorem Rdb.carry {w w' : World} (hw : ∀ b, b < w.heap.size → w'.heap[b]? = w.heap[b]?) : ∀ {n : Nat} {os az : Value}, Rdb w n os az → Rdb w' n os az := by
  intro n
  induction n with
  | zero => intro os az _; trivial
  | succ n ih =>
    rintro os az ⟨⟨o, h1⟩, a, l, c, h3, h4, h5⟩
    refine ⟨⟨o, h1.carry hw⟩, a, l, c, h3, h4, fun hl => ?_⟩
    obtain ⟨g, o, ha, hc⟩ := h5 hl
    refine ⟨g, o, ha, fun i hi => ?_⟩
    obtain ⟨k, m, r, os', az', h6, h7⟩ := hc i hi
    exact ⟨k, m, r, os', az', h6.of_heap (hw g h6.lt), ih h7⟩
theorem Rdb.past {w w' : World} {n : Nat} {os az : Value} (h : Rdb w n os az) (hb : Below w.heap.size w w') : Rdb w' n os az := Rdb.carry hb.block h
/-- The slices' forms, for the walk. -/
theorem IsT.slices {w : World} {t : Ty.P} {os az : Value} (h : IsT w t os az) : ∃ a c b l d, os = .slice a t.ops.length c ∧ az = .slice b l d ∧ l = (match t with | .list _ => 1 | .pair _ _ => 2 | .fn _ _ _ _ => 2 | _ => 0) := by
  cases t with
  | list a =>
    obtain ⟨⟨a, c, h0⟩, g, o, d, os', az', h1, _⟩ := h
    exact ⟨a, c, _, _, _, h0, h1, rfl⟩
  | pair a b =>
    obtain ⟨⟨a, c, h0⟩, g, o, d, os', az', os2, az2, h1, _⟩ := h
    exact ⟨a, c, _, _, _, h0, h1, rfl⟩
  | fn a b l r =>
    obtain ⟨⟨a, c, h0, _⟩, g, o, d, os', az', os2, az2, h1, _⟩ := h
    exact ⟨a, c, _, _, _, h0, h1, rfl⟩
  | var n => obtain ⟨⟨a, c, h0⟩, b, d, h1⟩ := h; exact ⟨a, c, b, _, d, h0, h1, rfl⟩
  | int => obtain ⟨⟨a, c, h0⟩, b, d, h1⟩ := h; exact ⟨a, c, b, _, d, h0, h1, rfl⟩
  | bool => obtain ⟨⟨a, c, h0⟩, b, d, h1⟩ := h; exact ⟨a, c, b, _, d, h0, h1, rfl⟩
  | unit => obtain ⟨⟨a, c, h0⟩, b, d, h1⟩ := h; exact ⟨a, c, b, _, d, h0, h1, rfl⟩
end Go.Proofs.Ytcogpcalghfghaa
