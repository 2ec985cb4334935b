/-
  Strings made of pieces; what a later world keeps; a slice of nodes in memory.
-/
import Derived.Test.YtddnnlldkdljoaaGreatDoorMBa
import Derived.WalkSpells
import Derived.WalkLawsBesides
import Derived.Deep.QuietTactic
import Derived.BigQuiet
import Derived.Deep.LoopGhost
import Derived.Deep.RegionHeld3
import Derived.Deep.RegionWith
import Derived.Deep.Cut
import Derived.Laws.IdiomStrings
import Derived.Lib.Walk
namespace Go.Proofs.YtddnnlldkdljoaaGreatDoor
open Go.RowKit

theorem below_dn {B : Nat} {a w : World} (h : Below B a w) (q : Nat) : Below B a (w.drewN q) := ⟨h.os, h.tape, h.output, h.size, h.block⟩
theorem str_ext {a b : ByteArray} (h : a.data.toList = b.data.toList) : a = b := by
  cases a; cases b
  simp only [ByteArray.mk.injEq]
  exact Array.toList_inj.1 h
theorem ret_str {a b : ByteArray} (h : a.data.toList = b.data.toList) : Ending.returned (.string a) = .returned (.string b) := by rw [str_ext h]
theorem size_mk (l : List UInt8) : (⟨l.toArray⟩ : ByteArray).size = l.length := by simp [ByteArray.size]
def StrRes (w : World) (x : List UInt8) (en : Ending) (w' : World) : Prop := en = .returned (.string ⟨x.toArray⟩) ∧ Hid (Below w.heap.size w w')
theorem str_fin {w w' : World} {a : ByteArray} {x : List UInt8} (h : a.data.toList = x) (hb : Below w.heap.size w w') : StrRes w x (.returned (.string a)) w' :=
  ⟨ret_str (by simpa using h), hb⟩
/-- What a world's cells say stands in a later one. -/
theorem past_cells {W V w1 : World} (hb : Below V.heap.size V w1) {b off : Nat} {v : Value} (hl : b < W.heap.size) (h : W.cell? ⟨b, off, none⟩ = some v) (hV : V.heap = W.heap := by rfl) : w1.cell? ⟨b, off, none⟩ = some v := by
  rw [hb.cell (p := ⟨b, off, none⟩) (by rw [hV]; exact hl)]
  rw [← h]
  exact World.cell?_of_block (w := W) (w' := V) (a := ⟨b, off, none⟩) (by rw [hV])

/-- A call that writes one node, from a world on. -/
def WOK (w : World) (v : Value) (x : List UInt8) : Prop := ∀ (V : World), Below w.heap.size w V → Calls Tryz.prog 10 #[v] V fun en w' => StrRes V x en w'
/-- A call that writes one node where a level is asked for. -/
def IOK (w : World) (v : Value) (least : Int) (x : List UInt8) : Prop := ∀ (V : World), Below w.heap.size w V → Calls Tryz.prog 24 #[v, .int .i64 least] V fun en w' => StrRes V x en w'
/-- A call of def. -/
def DOK (w : World) (v : Value) (x : List UInt8) : Prop := ∀ (V : World), Below w.heap.size w V → Calls Tryz.prog 25 #[v] V fun en w' => StrRes V x en w'
/-- Five cells of a node. -/
def Nod (w : World) (g o : Nat) (k p : Int) (x : ByteArray) (n : Int) (v : Value) : Prop :=
  w.cell? ⟨g, o, none⟩ = some (.int .i64 k) ∧ w.cell? ⟨g, o + 1, none⟩ = some (.int .i64 p) ∧ w.cell? ⟨g, o + 2, none⟩ = some (.string x) ∧
  w.cell? ⟨g, o + 3, none⟩ = some (.int .i64 n) ∧ w.cell? ⟨g, o + 4, none⟩ = some v
theorem Nod.past {w w' : World} {g o : Nat} {k p : Int} {x : ByteArray} {n : Int} {v : Value} (h : Nod w g o k p x n v) (hg : g < w.heap.size) (hb : Below w.heap.size w w') : Nod w' g o k p x n v :=
  ⟨past_cells hb hg h.1, past_cells hb hg h.2.1, past_cells hb hg h.2.2.1, past_cells hb hg h.2.2.2.1, past_cells hb hg h.2.2.2.2⟩
end Go.Proofs.YtddnnlldkdljoaaGreatDoor
