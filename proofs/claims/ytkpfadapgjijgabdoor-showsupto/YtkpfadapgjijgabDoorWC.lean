/-
  A Builder that is written into, and what stands beside it.
-/
import Derived.Test.YtkpfadapgjijgabDoorWB
namespace Go.Proofs.YtkpfadapgjijgabDoor
open Go.RowKit

/-- The Builder in block b, its bytes, in a world behind w, behind w0; a box in block H stands as it stood. -/
structure Wr (w0 w W : World) (B b H : Nat) (cs : Array Value) (l : List UInt8) : Prop where
  bld : Lib.IsBuilderF 33 5 B b (Lib.byteCells l) W
  bel : Below B w W
  oth : Lib.OthersKept 5 (some b) w W
  box : W.heap[H]? = some (.cells cs 25 (0, 0))
  new : Below w0.heap.size w0 W
  sz : B ≤ W.heap.size
/-- What a call that writes answers. -/
def WPost (w : World) (B b : Nat) (l : List UInt8) (e : Ending) (w' : World) : Prop :=
  e = .returned (.tuple #[]) ∧ Hid (Lib.IsBuilderF 33 5 B b (Lib.byteCells l) w') ∧ Hid (Below B w w') ∧ Hid (Lib.OthersKept 5 (some b) w w')

theorem bld_past {T e : TypeId} {B b : Nat} {bs : List Value} {w w' : World} (h : Lib.IsBuilderF T e B b bs w) (hb : Below w.heap.size w w') : Lib.IsBuilderF T e B b bs w' := by
  have key : ∀ p, Lib.BuilderAtF T e B b p bs w → Lib.BuilderAtF T e B b p bs w' := by
    rintro p ⟨hB, v, h1, ⟨h2, h3⟩, h4⟩
    have lt : ∀ (g : Nat) (o : Obj), w.heap[g]? = some o → w'.heap[g]? = some o := by
      intro g o ho
      rw [hb.block g (by
        rcases Nat.lt_or_ge g w.heap.size with h | h
        · exact h
        · rw [Array.getElem?_eq_none h] at ho; cases ho)]
      exact ho
    refine ⟨hB, v, lt _ _ h1, ⟨h2, ?_⟩, h4⟩
    rcases h3 with h3 | ⟨g, cap, cur, fz, g1, g2, g3, g4⟩
    · exact .inl h3
    · exact .inr ⟨g, cap, cur, fz, g1, g2, lt _ _ g3, g4⟩
  rcases h with h | h
  · exact .inl (key _ h)
  · exact .inr (key _ h)
theorem oth_past {e : TypeId} {b : Option Nat} {w w' : World} (hb : Below w.heap.size w w') : Lib.OthersKept e b w w' := by
  intro k o hk _ _
  rw [hb.block k (by
    rcases Nat.lt_or_ge k w.heap.size with h | h
    · exact h
    · rw [Array.getElem?_eq_none h] at hk; cases hk)]
  exact hk
theorem bld_lt {T e : TypeId} {B b : Nat} {bs : List Value} {w : World} (h : Lib.IsBuilderF T e B b bs w) : b < w.heap.size := by
  rcases h with ⟨_, v, h1, _⟩ | ⟨_, v, h1, _⟩ <;>
  · rcases Nat.lt_or_ge b w.heap.size with h | h
    · exact h
    · rw [Array.getElem?_eq_none h] at h1; cases h1

/-- A box is made. -/
theorem Wr.start {w0 w : World} {B b : Nat} {l : List UInt8} (cs : Array Value) (hb : Lib.IsBuilderF 33 5 B b (Lib.byteCells l) w) (hB : B ≤ w.heap.size) (hn : Below w0.heap.size w0 w) :
    Wr w0 w (w.alloc (.cells cs 25)) B b w.heap.size cs l :=
  have h1 : Below w.heap.size w (w.alloc (.cells cs 25)) := (Below.refl _ _).alloc (Nat.le_refl _) _
  ⟨bld_past hb h1, h1.mono hB, oth_past h1, heap_alloc_new w _, hn.trans (h1.mono hn.size), Nat.le_trans hB h1.size⟩
/-- A call that makes memory alone. -/
theorem Wr.past {w0 w W W' : World} {B b H : Nat} {cs : Array Value} {l : List UInt8} (h : Wr w0 w W B b H cs l) (hb : Below W.heap.size W W') : Wr w0 w W' B b H cs l :=
  have hlt : H < W.heap.size := by
    rcases Nat.lt_or_ge H W.heap.size with h1 | h1
    · exact h1
    · have := h.box; rw [Array.getElem?_eq_none h1] at this; cases this
  ⟨bld_past h.bld hb, h.bel.trans (hb.mono h.sz), h.oth.trans (oth_past hb), (hb.block H hlt).trans h.box, h.new.trans (hb.mono h.new.size), Nat.le_trans h.sz hb.size⟩
/-- A call that writes. -/
theorem Wr.wrote {w0 w W W' : World} {B b H : Nat} {cs : Array Value} {l l' : List UInt8} (h : Wr w0 w W B b H cs l) (hH : H ≠ b) (h0 : w0.heap.size ≤ B)
    (hb : Lib.IsBuilderF 33 5 B b (Lib.byteCells l') W') (hbel : Below B W W') (ho : Lib.OthersKept 5 (some b) W W') : Wr w0 w W' B b H cs l' :=
  ⟨hb, h.bel.trans hbel, h.oth.trans ho, ho H _ h.box (fun e => hH (Option.some.inj e)) (fun c fz e => by cases e), h.new.trans (hbel.mono h0), Nat.le_trans h.sz hbel.size⟩
theorem Wr.cell {w0 w W : World} {B b H : Nat} {cs : Array Value} {l : List UInt8} (h : Wr w0 w W B b H cs l) (k : Nat) (v : Value) (hk : cs[k]? = some v) : W.cell? ⟨H, k, none⟩ = some v := by
  rw [cell_of_row _ H k cs 25 (0, 0) h.box]
  exact hk

/-- WriteString, as the walks use it. -/
theorem say_any {w0 w W : World} {B b H : Nat} {cs : Array Value} {l : List UInt8} (h : Wr w0 w W B b H cs l) (hH : H ≠ b) (h0 : w0.heap.size ≤ B) (x : List UInt8) (hl : l.length + x.length ≤ 1000000000) :
    Calls Tryd.prog 17 #[.pointer (some ⟨b, 0, none⟩), .string ⟨x.toArray⟩] W fun e w' => (∃ v, e = .returned v) ∧ Hid (Wr w0 w w' B b H cs (l ++ x)) := by
  refine (Tryd.Builder_WriteString_k B b (Lib.byteCells l) ⟨x.toArray⟩ W h.bld (by
    have : (Lib.byteCells l).length = l.length := by simp [Lib.byteCells]
    rw [this, size_mk]; omega) h.sz).mono ?_
  rintro e w' ⟨rfl, hb, hbel, ho⟩
  refine ⟨⟨_, rfl⟩, h.wrote hH h0 (.inr ?_) hbel ho⟩
  rw [Lib.byteCells_append]
  exact hb
/-- The end of a walk. -/
theorem Wr.fin {w0 w W : World} {B b H : Nat} {cs : Array Value} {l l' : List UInt8} (h : Wr w0 w W B b H cs l) (e : l = l') : WPost w B b l' (.returned (.tuple #[])) W := by
  subst e
  exact ⟨rfl, h.bld, h.bel, h.oth⟩

def BareOK (t : Ty.P) : Prop := ∀ (w0 w : World) (B b : Nat) (l : List UInt8) (os az : Value), w0.heap.size ≤ B → B ≤ w.heap.size → Below w0.heap.size w0 w → TabW w0 → IsT w0 t os az →
  Lib.IsBuilderF 33 5 B b (Lib.byteCells l) w → l.length + t.text.length ≤ 900000000 →
  Calls Tryd.prog 16 #[.pointer (some ⟨b, 0, none⟩), .agg #[.int .i64 t.kind, .int .i64 t.num, .int .i64 t.row, os, az]] w fun e w' => WPost w B b (l ++ t.text) e w'

def WriteOK (t : Ty.P) (least : Int) (x : List UInt8) : Prop := ∀ (w0 w : World) (B b : Nat) (l : List UInt8) (os az : Value), w0.heap.size ≤ B → B ≤ w.heap.size → Below w0.heap.size w0 w → TabW w0 → IsT w0 t os az →
  Lib.IsBuilderF 33 5 B b (Lib.byteCells l) w → l.length + x.length ≤ 900000000 →
  Calls Tryd.prog 9 #[.pointer (some ⟨b, 0, none⟩), .agg #[.int .i64 t.kind, .int .i64 t.num, .int .i64 t.row, os, az], .int .i64 least] w fun e w' => WPost w B b (l ++ x) e w'
end Go.Proofs.YtkpfadapgjijgabDoor
