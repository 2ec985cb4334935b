/-
  What is known, as a map in memory.
-/
import Derived.Test.YtkfjjkpphpakbaaEc
import Derived.Maps.OwnSet
import Derived.Maps.OwnOps
import Derived.Maps.Views
set_option linter.unusedVariables false
set_option linter.unusedSimpArgs false
namespace Go.Proofs.Ytkfjjkpphpakbaa
open Go.RowKit Go.Maps Go.WideShapes

theorem Try.keyed3 : Keyed Try.prog 3 := int_keyed Try.underlying3
theorem Try.zero3 (w : World) : (zeroValue 3).run Try.prog w = .ok (.int .i64 0) w := by kernel_rfl
def KnM (w : World) (mB n : Nat) (K : Cd.Kn) : Prop := ∃ D : DataW Unit, w.ownsMap Try.prog 3 (plainElem Try.prog 3) mB n D ∧ ∀ a, (Lit.int .i64 a).wf = true → Maps.has D (.int .i64 a) = (K a).isSome ∧ D.atKey (.int .i64 a) (.lit (.int .i64 0)) = .lit (.int .i64 ((K a).getD 0))
theorem key3 {k : Int} (hk : (Lit.int .i64 k).wf = true) : keyOf Try.prog 3 (.int .i64 k) = some (.int .i64 k) := keyOf_int_mk Try.underlying3 hk
theorem KnM.kept {w w' : World} {mB n : Nat} {K : Cd.Kn} {row : Option Nat} (h : KnM w mB n K) (hg : w.grownBy w' row) (hne : some mB ≠ row) : KnM w' mB n K := by
  obtain ⟨D, h1, h2⟩ := h
  exact ⟨D, h1.kept hg hne, h2⟩
theorem KnM.drew {w : World} {mB n : Nat} {K : Cd.Kn} (h : KnM w mB n K) : KnM w.drew mB n K := by
  obtain ⟨D, h1, h2⟩ := h
  exact ⟨D, h1.drew, h2⟩
section
variable (w : World) {ops : Array Oper} {rest : List Oper} {o : Oper} {a : Act} {Q : Exit → Act → World → Prop}
theorem look_kn (hg : o.guard = none) (m x : Operand) (hop : o.op = Op.lookup 74 m x true) (mB n : Nat) (K : Cd.Kn) (hm : a.eval m = .map (some mB)) (h : KnM w mB n K) (k : Int) (hk : (Lit.int .i64 k).wf = true) (hx : a.eval x = .int .i64 k)
    (hK : wpList Try.prog ops Q rest (a.put o.dst (.tuple #[.int .i64 ((K k).getD 0), .bool (K k).isSome])) w) : wpList Try.prog ops Q (o :: rest) a w := by
  obtain ⟨D, h1, h2⟩ := h
  obtain ⟨e1, e2⟩ := h2 k hk
  refine wpList_lookup_own_ok_int w hg m x 74 hop 3 3 .i64 Try.keyed3 Try.underlying74 Try.underlying3 (Try.zero3 w) mB n D hm h1 _ (.int .i64 k) hx (key3 hk) ?_
  intro c hc _
  rw [e2] at hc
  have : (K k).getD 0 = c := by simpa using hc
  rw [← this, e1]
  exact hK
theorem put_kn (hg : o.guard = none) (m x y : Operand) (hop : o.op = Op.mapUpdate 74 m x y) (mB n : Nat) (K : Cd.Kn) (hm : a.eval m = .map (some mB)) (h : KnM w mB n K) (hn : n < maxLen) (k v : Int) (hk : (Lit.int .i64 k).wf = true) (hv : (Lit.int .i64 v).wf = true) (hx : a.eval x = .int .i64 k) (hy : a.eval y = .int .i64 v)
    (hK : ∀ w', KnM w' mB (n + 1) (K.put k v) → w.grownBy w' (some mB) → wpList Try.prog ops Q rest (a.put o.dst undef) w') : wpList Try.prog ops Q (o :: rest) a w := by
  obtain ⟨D, h1, h2⟩ := h
  refine wpList_mapUpdate_own w hg m x y 74 hop 3 3 Try.keyed3 Try.underlying74 (plainElem Try.prog 3) mB n D hm h1 hn _ _ (.int .i64 k) hx hy (key3 hk) (.lit (.int .i64 v)) [] (plainElem_int Try.underlying3 hv) ?_
  intro w' h3 h4
  refine hK w' ⟨_, h3, fun b hb => ?_⟩ h4
  by_cases e : b = k
  · subst e
    have hkl : WideAt.IsKeyLit (.int .i64 b) := by simp [WideAt.IsKeyLit]
    rw [has_put_same h1.isMap hkl, atKey_put_same h1.isMap hkl]
    simp [Cd.Kn.put]
  · have hne : Lit.int IntKind.i64 b ≠ .int .i64 k := fun e2 => e (by injection e2)
    rw [has_put_other hne, atKey_put_other hne]
    have := h2 b hb
    simpa [Cd.Kn.put, e] using this
end
end Go.Proofs.Ytkfjjkpphpakbaa
