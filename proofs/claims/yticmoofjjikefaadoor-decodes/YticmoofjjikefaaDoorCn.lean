/-
  Codes in memory; the operations append on rows of bytes, for the walk.
-/
import Derived.Test.YticmoofjjikefaaDoorCm
set_option linter.unusedVariables false
set_option linter.unusedSimpArgs false
namespace Go.Proofs.YticmoofjjikefaaDoor
open Go.RowKit Go.Lib

section
variable {ops : Array Oper} {rest : List Oper} {o : Oper} {a : Act} {w : World} {K : Act → World → Prop} {Q : Exit → Act → World → Prop}

theorem wp_bytes_str (s x : Operand) (hop : o.op = Op.call { callee := Callee.builtin Builtin.append, args := #[s, x], argTypes := #[67, 9] })
    (B : Nat) (v : Value) (l : List UInt8) (str : ByteArray) (hs : a.eval s = v) (hx : a.eval x = .string str) (h : ByRow w B v l) (hB : B ≤ w.heap.size) (hl : l.length + str.size ≤ 140737488355328)
    (hK : ∀ v' w', ByRow w' B v' (l ++ str.data.toList) → Below B w w' → w.grownBy w' v.ownBlock → (v'.ownBlock = v.ownBlock ∨ v'.ownBlock = some w.heap.size) → K (a.put o.dst v') w') : o.wp Tryd.prog a w K Q := by
  obtain ⟨v', w', hr, h1, h2, h3⟩ := bytes_str w B v l o.type str h hB hl
  unfold Oper.wp execOp
  simp only [hop, resolve, invoke, builtin, Sem.run_bind, Sem.run_pure, Result.andThen_ok, List.map_toArray, List.map_cons, List.map_nil, hs, hx, hr]
  exact hK _ _ h1 (h.below hB h2) h2 h3
theorem wpList_bytes_str (hgd : o.guard = none) (s x : Operand) (hop : o.op = Op.call { callee := Callee.builtin Builtin.append, args := #[s, x], argTypes := #[67, 9] })
    (B : Nat) (v : Value) (l : List UInt8) (str : ByteArray) (hs : a.eval s = v) (hx : a.eval x = .string str) (h : ByRow w B v l) (hB : B ≤ w.heap.size) (hl : l.length + str.size ≤ 140737488355328)
    (hK : ∀ v' w', ByRow w' B v' (l ++ str.data.toList) → Below B w w' → w.grownBy w' v.ownBlock → (v'.ownBlock = v.ownBlock ∨ v'.ownBlock = some w.heap.size) → wpList Tryd.prog ops Q rest (a.put o.dst v') w') : wpList Tryd.prog ops Q (o :: rest) a w :=
  wpList_plain hgd fun _ hK' => wp_bytes_str s x hop B v l str hs hx h hB hl fun v' w' h1 h2 h3 h4 => hK' _ _ (hK v' w' h1 h2 h3 h4)
theorem step_bytes_str {E : Prop} (hg : o.guard = none) (s x : Operand) (hop : o.op = Op.call { callee := Callee.builtin Builtin.append, args := #[s, x], argTypes := #[67, 9] })
    (B : Nat) (v : Value) (l : List UInt8) (str : ByteArray) (hs : a.eval s = v) (hx : a.eval x = .string str) (h : ByRow w B v l) (hB : B ≤ w.heap.size) (hl : l.length + str.size ≤ 140737488355328)
    (hK : ∀ v' w', ByRow w' B v' (l ++ str.data.toList) → Below B w w' → w.grownBy w' v.ownBlock → (v'.ownBlock = v.ownBlock ∨ v'.ownBlock = some w.heap.size) → K (a.put o.dst v') w') : if Region.wanted o (yielded ops a.tmps) = true then Oper.wp Tryd.prog o a w K Q else E := by
  have hw : Region.wanted o (yielded ops a.tmps) = true := by simp [Region.wanted, hg]
  rw [if_pos hw]
  exact wp_bytes_str s x hop B v l str hs hx h hB hl hK
theorem wpList_bytes_one (hgd : o.guard = none) (s x : Operand) (hop : o.op = Op.call { callee := Callee.builtin Builtin.append, args := #[s, x], argTypes := #[67, 67] })
    (B : Nat) (v : Value) (l : List UInt8) (ad : Addr) (c : UInt8) (cp : Nat) (hs : a.eval s = v) (hx : a.eval x = .slice (some ad) 1 cp) (hc : w.cell? ad = some (.int .u8 (c.toNat : Int))) (h : ByRow w B v l) (hB : B ≤ w.heap.size) (hl : l.length + 1 ≤ 140737488355328)
    (hK : ∀ v' w', ByRow w' B v' (l ++ [c]) → Below B w w' → w.grownBy w' v.ownBlock → (v'.ownBlock = v.ownBlock ∨ v'.ownBlock = some w.heap.size) → wpList Tryd.prog ops Q rest (a.put o.dst v') w') : wpList Tryd.prog ops Q (o :: rest) a w := by
  refine wpList_plain hgd fun K hK' => ?_
  obtain ⟨v', w', hr, h1, h2, h3⟩ := bytes_one w B v l o.type ad c cp hc h hB hl
  unfold Oper.wp execOp
  simp only [hop, resolve, invoke, builtin, Sem.run_bind, Sem.run_pure, Result.andThen_ok, List.map_toArray, List.map_cons, List.map_nil, hs, hx, hr]
  exact hK' _ _ (hK _ _ h1 (h.below hB h2) h2 h3)
end

set_option maxRecDepth 100000 in
theorem upon_bytes_of {o : Oper} {a : Act} {w : World} {K : Act → World → Prop} {Q : Exit → Act → World → Prop} {f : Value → World → Result Next} (s : ByteArray) (hs : s.size ≤ maxLen)
    (hK : ∀ v w', ByRow w' w.heap.size v s.data.toList → Below w.heap.size w w' → Oper.upon Tryd.prog o a K Q (f v w')) : Oper.upon Tryd.prog o a K Q ((Sem.run Tryd.prog (convert 9 67 (.string s)) w).andThen f) := by
  obtain ⟨v, w', hr, h1, h2⟩ := bytes_of w s hs
  rw [show Sem.run Tryd.prog (convert 9 67 (.string s)) w = .ok v w' from hr]
  exact hK v w' h1 h2
set_option maxRecDepth 100000 in
theorem upon_bytes_str {o : Oper} {a : Act} {w : World} {K : Act → World → Prop} {Q : Exit → Act → World → Prop} {f : Value → World → Result Next} {ty : TypeId} (B : Nat) (v : Value) (l : List UInt8) (s : ByteArray) (h : ByRow w B v l) (hB : B ≤ w.heap.size) (hl : l.length + s.size ≤ 140737488355328)
    (hK : ∀ v' w', ByRow w' B v' (l ++ s.data.toList) → Below B w w' → w.grownBy w' v.ownBlock → (v'.ownBlock = v.ownBlock ∨ v'.ownBlock = some w.heap.size) → Oper.upon Tryd.prog o a K Q (f v' w')) : Oper.upon Tryd.prog o a K Q ((Sem.run Tryd.prog (Builtin.append_ #[67, 9] ty #[v, .string s]) w).andThen f) := by
  obtain ⟨v', w', hr, h1, h2, h3⟩ := bytes_str w B v l ty s h hB hl
  rw [show Sem.run Tryd.prog (Builtin.append_ #[67, 9] ty #[v, .string s]) w = .ok v' w' from hr]
  exact hK v' w' h1 (h.below hB h2) h2 h3

set_option maxRecDepth 100000 in
theorem upon_bytes_one {o : Oper} {a : Act} {w : World} {K : Act → World → Prop} {Q : Exit → Act → World → Prop} {f : Value → World → Result Next} {ty : TypeId} (B : Nat) (v : Value) (l : List UInt8) (ad : Addr) (c : UInt8) (cp : Nat) (hc : w.cell? ad = some (.int .u8 (c.toNat : Int))) (h : ByRow w B v l) (hB : B ≤ w.heap.size) (hl : l.length + 1 ≤ 140737488355328)
    (hK : ∀ v' w', ByRow w' B v' (l ++ [c]) → Below B w w' → w.grownBy w' v.ownBlock → (v'.ownBlock = v.ownBlock ∨ v'.ownBlock = some w.heap.size) → Oper.upon Tryd.prog o a K Q (f v' w')) : Oper.upon Tryd.prog o a K Q ((Sem.run Tryd.prog (Builtin.append_ #[67, 67] ty #[v, .slice (some ad) 1 cp]) w).andThen f) := by
  obtain ⟨v', w', hr, h1, h2, h3⟩ := bytes_one w B v l ty ad c cp hc h hB hl
  rw [show Sem.run Tryd.prog (Builtin.append_ #[67, 67] ty #[v, .slice (some ad) 1 cp]) w = .ok v' w' from hr]
  exact hK v' w' h1 (h.below hB h2) h2 h3

/-- Numbers in a slice. -/
def IntsM (w : World) (v : Value) (l : List Int) : Prop :=
  ∃ (a : Option Addr) (c : Nat), v = .slice a l.length c ∧ l.length ≤ c ∧ (l ≠ [] → ∃ g k, a = some ⟨g, k, none⟩ ∧ ∀ i x, l[i]? = some x → w.cell? ⟨g, k + i, none⟩ = some (.int .i64 x))
def OpsM (w : World) (v : Value) (l : List Cd.Op) : Prop :=
  ∃ (a : Option Addr) (c : Nat), v = .slice a l.length c ∧ l.length ≤ c ∧ (l ≠ [] → ∃ g k, a = some ⟨g, k, none⟩ ∧ ∀ i x, l[i]? = some x → w.cell? ⟨g, k + i * 2, none⟩ = some (.string ⟨x.name.toArray⟩) ∧ w.cell? ⟨g, k + i * 2 + 1, none⟩ = some (.bool x.once))
def HansM (w : World) (v : Value) (l : List Cd.Han) : Prop :=
  ∃ (a : Option Addr) (c : Nat), v = .slice a l.length c ∧ l.length ≤ c ∧ (l ≠ [] → ∃ g k, a = some ⟨g, k, none⟩ ∧ ∀ i x, l[i]? = some x → w.cell? ⟨g, k + i * 2, none⟩ = some (.bool x.shallow) ∧ ∃ u, w.cell? ⟨g, k + i * 2 + 1, none⟩ = some u ∧ IntsM w u x.ops)
def InssM (w : World) (v : Value) (l : List Cd.Ins) : Prop :=
  ∃ (a : Option Addr) (c : Nat), v = .slice a l.length c ∧ l.length ≤ c ∧ (l ≠ [] → ∃ g k, a = some ⟨g, k, none⟩ ∧ ∀ i x, l[i]? = some x → w.cell? ⟨g, k + i * 4, none⟩ = some (.int .i64 x.op) ∧ w.cell? ⟨g, k + i * 4 + 1, none⟩ = some (.int .i64 x.a) ∧ w.cell? ⟨g, k + i * 4 + 2, none⟩ = some (.int .i64 x.b) ∧ w.cell? ⟨g, k + i * 4 + 3, none⟩ = some (.int .i64 x.n))
def FunsM (w : World) (v : Value) (l : List Cd.Fun) : Prop :=
  ∃ (a : Option Addr) (c : Nat), v = .slice a l.length c ∧ l.length ≤ c ∧ (l ≠ [] → ∃ g k, a = some ⟨g, k, none⟩ ∧ ∀ i x, l[i]? = some x → w.cell? ⟨g, k + i * 3, none⟩ = some (.int .i64 x.free) ∧ w.cell? ⟨g, k + i * 3 + 1, none⟩ = some (.int .i64 x.slots) ∧ ∃ u, w.cell? ⟨g, k + i * 3 + 2, none⟩ = some u ∧ InssM w u x.ins)
/-- A code in memory: its shape, and three slices. -/
def CodeM (w : World) (b c d : Value) (C : Cd.Code) : Prop := OpsM w b C.ops ∧ HansM w c C.hans ∧ FunsM w d C.funs

theorem kc {w w' : World} (hb : Below w.heap.size w w') {g k : Nat} {v : Value} (h : w.cell? ⟨g, k, none⟩ = some v) : w'.cell? ⟨g, k, none⟩ = some v :=
  (hb.cell (p := ⟨g, k, none⟩) (World.block_lt_of_cell? w ⟨g, k, none⟩ h)).trans h
theorem IntsM.keep {w w' : World} {v : Value} {l : List Int} (h : IntsM w v l) (hb : Below w.heap.size w w') : IntsM w' v l := by
  obtain ⟨a, c, h1, h2, h3⟩ := h
  refine ⟨a, c, h1, h2, fun h0 => ?_⟩
  obtain ⟨g, k, e, h4⟩ := h3 h0
  exact ⟨g, k, e, fun i x hx => kc hb (h4 i x hx)⟩
theorem OpsM.keep {w w' : World} {v : Value} {l : List Cd.Op} (h : OpsM w v l) (hb : Below w.heap.size w w') : OpsM w' v l := by
  obtain ⟨a, c, h1, h2, h3⟩ := h
  refine ⟨a, c, h1, h2, fun h0 => ?_⟩
  obtain ⟨g, k, e, h4⟩ := h3 h0
  exact ⟨g, k, e, fun i x hx => ⟨kc hb (h4 i x hx).1, kc hb (h4 i x hx).2⟩⟩
theorem HansM.keep {w w' : World} {v : Value} {l : List Cd.Han} (h : HansM w v l) (hb : Below w.heap.size w w') : HansM w' v l := by
  obtain ⟨a, c, h1, h2, h3⟩ := h
  refine ⟨a, c, h1, h2, fun h0 => ?_⟩
  obtain ⟨g, k, e, h4⟩ := h3 h0
  refine ⟨g, k, e, fun i x hx => ?_⟩
  obtain ⟨h5, u, h6, h7⟩ := h4 i x hx
  exact ⟨kc hb h5, u, kc hb h6, h7.keep hb⟩
theorem InssM.keep {w w' : World} {v : Value} {l : List Cd.Ins} (h : InssM w v l) (hb : Below w.heap.size w w') : InssM w' v l := by
  obtain ⟨a, c, h1, h2, h3⟩ := h
  refine ⟨a, c, h1, h2, fun h0 => ?_⟩
  obtain ⟨g, k, e, h4⟩ := h3 h0
  refine ⟨g, k, e, fun i x hx => ?_⟩
  obtain ⟨h5, h6, h7, h8⟩ := h4 i x hx
  exact ⟨kc hb h5, kc hb h6, kc hb h7, kc hb h8⟩
theorem FunsM.keep {w w' : World} {v : Value} {l : List Cd.Fun} (h : FunsM w v l) (hb : Below w.heap.size w w') : FunsM w' v l := by
  obtain ⟨a, c, h1, h2, h3⟩ := h
  refine ⟨a, c, h1, h2, fun h0 => ?_⟩
  obtain ⟨g, k, e, h4⟩ := h3 h0
  refine ⟨g, k, e, fun i x hx => ?_⟩
  obtain ⟨h5, h6, u, h7, h8⟩ := h4 i x hx
  exact ⟨kc hb h5, kc hb h6, u, kc hb h7, h8.keep hb⟩
theorem CodeM.keep {w w' : World} {b c d : Value} {C : Cd.Code} (h : CodeM w b c d C) (hb : Below w.heap.size w w') : CodeM w' b c d C := ⟨h.1.keep hb, h.2.1.keep hb, h.2.2.keep hb⟩

theorem at_some {α : Type} {l : List α} {i : Nat} (h : i < l.length) : ∃ x, l[i]? = some x ∧ l.take (i + 1) = l.take i ++ [x] ∧ x ∈ l ∧ l ≠ [] := by
  refine ⟨l[i], List.getElem?_eq_getElem h, ?_, List.getElem_mem h, ?_⟩
  · rw [List.take_add_one, List.getElem?_eq_getElem h]; rfl
  · intro e; subst e; simp at h
end Go.Proofs.YticmoofjjikefaaDoor
