/-
  Decode's state: a field of what is under way is set; what is done goes into the code.
-/
import Derived.Test.YticmoofjjikefaaDoorMDf
set_option linter.unusedVariables false
set_option linter.unusedSimpArgs false
namespace Go.Proofs.YticmoofjjikefaaDoor
open Go.RowKit

section
variable {T : TypeId} {pre : List Value} {e : TypeId} {z : Nat} {w0 w : World} {s : List UInt8} {g : Dg} {hb : Nat} {u : Value} {n : Nat} {xs : List Value}
theorem Sst.field (h : Sst T pre e z w0 s g hb u n xs w) (i : Nat) (hi : i < pre.length) (v : Value) : Sst T (pre.set i v) e z w0 s g hb u n xs (w.setCell ⟨hb, i, none⟩ v) := by
  have hc2 : Ch (fun k => k = hb) w (w.setCell ⟨hb, i, none⟩ v) := Ch.setCell _ _ _ rfl
  refine ⟨h.m.aside 6 (.inl rfl) hc2 (fun k hk => .inl hk) (fun k hk => Nat.lt_of_lt_of_le (h.m.own.lt 6 k hk) hc2.size) rfl, ?_, ownsRow_keep h.r (h.m.own.same (i := 6) (j := 7) (by omega) hc2)⟩
  rw [blk_set h.b]
  simp [List.set_append, hi]
end
theorem Dm.endHan {w0 w w1 : World} {s : List UInt8} {g : Dg} {hb : Nat} {sw : Bool} {u : Value} {l : List Int} (h : Sst 59 [.bool sw] 3 1 w0 s g hb u l.length (l.map (Value.int .i64)) w) {v' : Value} (hrow : w1.ownsRow 0 59 2 v' (g.hs.length + 1) (g.hs.flatMap hanC ++ [.bool sw, u])) (hc : Ch (fun k => g.vh.ownBlock = some k) w w1) (hm : ∀ k, v'.ownBlock = some k → g.vh.ownBlock = some k ∨ w.heap.size ≤ k) :
    Dm w0 s { g with X := fun k => k = hb, D := fun k => g.D k ∨ u.ownBlock = some k, Y := fun _ => False, vh := v', hs := g.hs ++ [(u, ⟨sw, l⟩)] } (w1.setCell ⟨g.cb, 2, none⟩ v') :=
  (h.m.give).pushHan (x := (u, ⟨sw, l⟩)) (v' := v') (w1 := w1) hrow hc hm ⟨h.r, fun k hk => .inr hk⟩
theorem Dm.endFun {w0 w w1 : World} {s : List UInt8} {g : Dg} {hb : Nat} {fr sl : Int} {u : Value} {l : List Cd.Ins} (h : Sst 62 [.int .i64 fr, .int .i64 sl] 64 4 w0 s g hb u l.length (l.flatMap insC) w) {v' : Value} (hrow : w1.ownsRow 0 62 3 v' (g.fs.length + 1) (g.fs.flatMap funC ++ [.int .i64 fr, .int .i64 sl, u])) (hc : Ch (fun k => g.vf.ownBlock = some k) w w1) (hm : ∀ k, v'.ownBlock = some k → g.vf.ownBlock = some k ∨ w.heap.size ≤ k) :
    Dm w0 s { g with X := fun k => k = hb, D := fun k => g.D k ∨ u.ownBlock = some k, Y := fun _ => False, vf := v', fs := g.fs ++ [(u, ⟨fr, sl, l⟩)] } (w1.setCell ⟨g.cb, 3, none⟩ v') :=
  (h.m.give).pushFun (x := (u, ⟨fr, sl, l⟩)) (v' := v') (w1 := w1) hrow hc hm ⟨h.r, fun k hk => .inr hk⟩
end Go.Proofs.YticmoofjjikefaaDoor
