/-
  The program's lists: what a list under way is in memory.
-/
import Derived.Test.YticmoofjjikefaaDoorRc2
import Derived.Test.YticmoofjjikefaaDoorDz
set_option linter.unusedVariables false
set_option linter.unusedSimpArgs false
namespace Go.Proofs.YticmoofjjikefaaDoor
open Go.RowKit Go.Lib

/-- One after the other, as long as there is no fault. -/
def Cd.Rd.manyL {α : Type} (g : Cd.Rd → α × Cd.Rd) : Nat → Cd.Rd → List α × Cd.Rd
  | 0, r => ([], r)
  | n + 1, r => if r.fk = 0 then ((g r).1 :: (manyL g n (g r).2).1, (manyL g n (g r).2).2) else ([], r)
theorem many_stop {α : Type} (g : Cd.Rd → α × Cd.Rd) (n : Nat) (r : Cd.Rd) (h : r.fk ≠ 0) : Cd.Rd.manyL g n r = ([], r) := by
  cases n with
  | zero => rfl
  | succ n => rw [Cd.Rd.manyL, if_neg h]
theorem many_go {α : Type} (g : Cd.Rd → α × Cd.Rd) (n : Nat) (r : Cd.Rd) (h : r.fk = 0) : Cd.Rd.manyL g (n + 1) r = ((g r).1 :: (Cd.Rd.manyL g n (g r).2).1, (Cd.Rd.manyL g n (g r).2).2) := by
  rw [Cd.Rd.manyL, if_pos h]

/-- How an element lies in memory: its cells; blocks of D may hold more of it. -/
abbrev Rel (α : Type) := α → List Value → World → (Nat → Prop) → Prop
def Rel.Ok {α : Type} (R : Rel α) (size : Nat) : Prop := (∀ x cs w D, R x cs w D → cs.length = size ∧ ∀ u ∈ cs, u.oneCell' = true) ∧ ∀ x cs w w' D D', R x cs w D → (∀ k, D k → w'.heap[k]? = w.heap[k]?) → (∀ k, D k → D' k) → R x cs w' D'
/-- A list under way. -/
structure LI {α : Type} (R : Rel α) (e : TypeId) (size b : Nat) (w wr : World) (v : Value) (D : Nat → Prop) (l : List α) (css : List (List Value)) : Prop where
  row : wr.ownsRow 0 e size v l.length css.flatten
  len : css.length = l.length
  rel : ∀ (j : Nat) (x : α), l[j]? = some x → ∃ cs, css[j]? = some cs ∧ R x cs wr D
  dk : ∀ k, D k → k < wr.heap.size ∧ k ≠ b ∧ w.heap.size ≤ k ∧ v.ownBlock ≠ some k
  own : ∃ g, v.ownBlock = some g ∧ g ≠ b ∧ w.heap.size ≤ g
theorem LI.each {α : Type} {R : Rel α} {e : TypeId} {size b : Nat} {w wr w1 : World} {v : Value} {D : Nat → Prop} {l : List α} {css : List (List Value)} (hR : R.Ok size) (h : LI R e size b w wr v D l css) (hg : wr.grownBy w1 (some b)) : LI R e size b w w1 v D l css := by
  obtain ⟨g, hg1, hg2, hg3⟩ := h.own
  refine ⟨ownsRow_keep h.row (fun k hk => hg.block k (ownsRow_lt h.row hk) ?_), h.len, fun j x hx => ?_, fun k hk => ⟨Nat.lt_of_lt_of_le (h.dk k hk).1 hg.size, (h.dk k hk).2⟩, h.own⟩
  · rw [hg1] at hk
    cases hk
    simp
    omega
  · obtain ⟨cs, h1, h2⟩ := h.rel j x hx
    exact ⟨cs, h1, hR.2 x cs wr w1 D D h2 (fun k hk => hg.block k (h.dk k hk).1 (by have := (h.dk k hk).2.1; simp; omega)) (fun _ h => h)⟩
theorem flatten_snoc (css : List (List Value)) (cs : List Value) : (css ++ [cs]).flatten = css.flatten ++ cs := by simp
/-- One more. -/
theorem LI.push {α : Type} {R : Rel α} {e : TypeId} {size b : Nat} {w w1 w2 : World} {v v' : Value} {D D1 : Nat → Prop} {l : List α} {css : List (List Value)} {x : α} {cs : List Value} {o : Obj} (hR : R.Ok size) (h : LI R e size b w w1 v D l css) (hb : b < w1.heap.size) (hx : R x cs w1 D1) (hD1 : ∀ k, D1 k → k < w1.heap.size ∧ k ≠ b ∧ w.heap.size ≤ k ∧ v.ownBlock ≠ some k) (hw : w.heap.size ≤ w1.heap.size)
    (hrow : w2.ownsRow 0 e size v' (l.length + 1) (css.flatten ++ cs)) (hg : (w1.alloc o).grownBy w2 v.ownBlock) (hat : v'.ownBlock = v.ownBlock ∨ v'.ownBlock = some (w1.alloc o).heap.size) : LI R e size b w w2 v' (fun k => D k ∨ D1 k) (l ++ [x]) (css ++ [cs]) := by
  have hs : ∀ k, k < w1.heap.size → v.ownBlock ≠ some k → w2.heap[k]? = w1.heap[k]? := fun k hk hne => (hg.block k (by simp; omega) (fun e => hne e.symm)).trans (Below.heap_alloc w1 o k hk)
  have hz : w1.heap.size ≤ w2.heap.size := by have := hg.size; simp at this; omega
  have hall : ∀ k, (D k ∨ D1 k) → k < w1.heap.size ∧ k ≠ b ∧ w.heap.size ≤ k ∧ v.ownBlock ≠ some k := fun k hk => by
    rcases hk with hk | hk
    · exact h.dk k hk
    · exact hD1 k hk
  obtain ⟨g, hg1, hg2, hg3⟩ := h.own
  refine ⟨?_, by simp [h.len], fun j y hy => ?_, fun k hk => ?_, ?_⟩
  · rw [flatten_snoc, List.length_append]
    exact hrow
  · by_cases hj : j < l.length
    · rw [List.getElem?_append_left hj] at hy
      obtain ⟨ds, h1, h2⟩ := h.rel j y hy
      refine ⟨ds, ?_, hR.2 y ds w1 w2 D _ h2 (fun k hk => hs k (h.dk k hk).1 (h.dk k hk).2.2.2) (fun _ h => .inl h)⟩
      rw [List.getElem?_append_left (by rw [h.len]; exact hj)]
      exact h1
    · have hjl : j = l.length := by
        have := (List.getElem?_eq_some_iff.1 hy).1
        simp at this
        omega
      subst hjl
      simp at hy
      subst hy
      refine ⟨cs, by rw [← h.len]; simp, hR.2 _ cs w1 w2 D1 _ hx (fun k hk => hs k (hD1 k hk).1 (hD1 k hk).2.2.2) (fun _ h => .inr h)⟩
  · obtain ⟨a1, a2, a3, a4⟩ := hall k hk
    refine ⟨by omega, a2, a3, ?_⟩
    rcases hat with e | e
    · rw [e]; exact a4
    · rw [e]; simp; omega
  · rcases hat with e | e
    · exact ⟨g, e.trans hg1, hg2, hg3⟩
    · exact ⟨_, e, by simp; omega, by simp; omega⟩
/-- A list that is done. -/
def LsM {α : Type} (R : Rel α) (size : Nat) (w : World) (D : Nat → Prop) (v : Value) (l : List α) : Prop :=
  ∃ (a : Option Addr) (c : Nat), v = .slice a l.length c ∧ l.length ≤ c ∧ (l ≠ [] → ∃ g, a = some ⟨g, 0, none⟩ ∧ D g ∧ ∀ (i : Nat) (x : α), l[i]? = some x → ∃ cs, R x cs w D ∧ ∀ (j : Nat) (u : Value), cs[j]? = some u → w.cell? ⟨g, i * size + j, none⟩ = some u)
theorem flat_at {css : List (List Value)} {size i j : Nat} {cs : List Value} {u : Value} (hl : ∀ (k : Nat) (ds : List Value), css[k]? = some ds → ds.length = size) (hi : css[i]? = some cs) (hj : cs[j]? = some u) : css.flatten[i * size + j]? = some u := by
  induction css generalizing i with
  | nil => simp at hi
  | cons c css ih =>
    have hc : c.length = size := hl 0 c rfl
    cases i with
    | zero =>
      simp at hi
      subst hi
      have := (List.getElem?_eq_some_iff.1 hj).1
      simp only [List.flatten_cons, Nat.zero_mul, Nat.zero_add]
      rw [List.getElem?_append_left this]
      exact hj
    | succ i =>
      simp only [List.getElem?_cons_succ] at hi
      have := ih (fun k ds hk => hl (k + 1) ds (by simpa using hk)) hi
      simp only [List.flatten_cons]
      rw [List.getElem?_append_right (by rw [hc, Nat.add_mul]; omega)]
      rw [show (i + 1) * size + j - c.length = i * size + j by rw [hc, Nat.add_mul]; omega]
      exact this
theorem LI.done {α : Type} {R : Rel α} {e : TypeId} {size b : Nat} {w wr : World} {v : Value} {D : Nat → Prop} {l : List α} {css : List (List Value)} (hR : R.Ok size) (h : LI R e size b w wr v D l css) : ∃ D', LsM R size wr D' v l ∧ ∀ k, D' k → k < wr.heap.size ∧ k ≠ b ∧ w.heap.size ≤ k := by
  obtain ⟨g, hg1, hg2, hg3⟩ := h.own
  refine ⟨fun k => D k ∨ k = g, ?_, fun k hk => ?_⟩
  · obtain ⟨a, cap, hv, ha, hc⟩ := row_slice h.row
    refine ⟨a, cap, hv, hc, fun hne => ?_⟩
    obtain ⟨g', rfl⟩ : ∃ g', a = some ⟨g', 0, none⟩ := by
      rcases ha with ha | ha
      · exact absurd (List.length_eq_zero_iff.1 ha) hne
      · exact ha
    rw [hv] at hg1
    cases hg1
    refine ⟨g', rfl, .inr rfl, fun i x hx => ?_⟩
    obtain ⟨cs, h1, h2⟩ := h.rel i x hx
    refine ⟨cs, hR.2 x cs wr wr D _ h2 (fun _ _ => rfl) (fun _ h => .inl h), fun j u hj => ?_⟩
    have hrow := h.row
    rw [hv] at hrow
    refine row_cell hrow _ u (flat_at (fun k ds hk => ?_) h1 hj)
    have hkl : k < l.length := by rw [← h.len]; exact (List.getElem?_eq_some_iff.1 hk).1
    obtain ⟨ds', h3, h4⟩ := h.rel k l[k] (List.getElem?_eq_getElem hkl)
    rw [h3] at hk
    cases hk
    exact (hR.1 _ _ _ _ h4).1
  · rcases hk with hk | rfl
    · exact ⟨(h.dk k hk).1, (h.dk k hk).2.1, (h.dk k hk).2.2.1⟩
    · exact ⟨ownsRow_lt h.row hg1, hg2, hg3⟩
end Go.Proofs.YticmoofjjikefaaDoor
