/-
  The document's graph in memory: seven rows and two maps behind nine cells.
-/
import Derived.Test.YtcogpcalghfghaaOa
import Derived.MapKept
set_option linter.unusedVariables false
set_option linter.unusedSimpArgs false
namespace Go.Proofs.Ytcogpcalghfghaa
open Go.RowKit

theorem hid {p : Prop} (h : p) : Hid p := h
/-- A map of numbers, by its entries. -/
def MI (w : World) (mB : Nat) (l : List (Int × Int)) : Prop := ∃ es clock, w.heap[mB]? = some (.map es clock) ∧ es.toList.map (fun e => (e.key, e.val)) = l.map fun p => (Value.int .i64 p.1, Value.int .i64 p.2)
theorem MI.lt {w : World} {mB : Nat} {l : List (Int × Int)} (h : MI w mB l) : mB < w.heap.size := by
  obtain ⟨es, c, h, _⟩ := h
  exact (Array.getElem?_eq_some_iff.1 h).1
theorem MI.keep {w w' : World} {mB : Nat} {l : List (Int × Int)} (h : MI w mB l) (hs : w'.heap[mB]? = w.heap[mB]?) : MI w' mB l := by
  obtain ⟨es, c, h, he⟩ := h
  exact ⟨es, c, hs.trans h, he⟩

structure Gg where
  v : Nat → Value
  xs : Nat → List Value
  t : Nat
  r : Nat
  tv : List (Int × Int)
  rv : List (Int × Int)
/-- What a row's elements are. -/
def el (i : Nat) : TypeId := if i = 5 then 24 else 3
/-- The blocks of a graph. -/
def Gg.own (G : Gg) (b : Nat) (k : Nat) : Prop := k = b ∨ (∃ i, i < 7 ∧ (G.v i).ownBlock = some k) ∨ k = G.t ∨ k = G.r
structure GM (w : World) (b : Nat) (G : Gg) : Prop where
  blk : w.heap[b]? = some (.cells #[G.v 0, G.v 1, G.v 2, G.v 3, G.v 4, G.v 5, G.v 6, .map (some G.t), .map (some G.r)] 99034 (0, 0))
  row : ∀ i, i < 7 → w.ownsRow 0 (el i) 1 (G.v i) (G.xs i).length (G.xs i)
  mt : MI w G.t G.tv
  mr : MI w G.r G.rv
  d1 : ∀ i j k, i < 7 → j < 7 → (G.v i).ownBlock = some k → (G.v j).ownBlock = some k → i = j
  d2 : ∀ i, i < 7 → (G.v i).ownBlock ≠ some b ∧ (G.v i).ownBlock ≠ some G.t ∧ (G.v i).ownBlock ≠ some G.r
  d3 : b ≠ G.t ∧ b ≠ G.r ∧ G.t ≠ G.r
theorem GM.lt {w : World} {b : Nat} {G : Gg} (h : GM w b G) {k : Nat} (hk : G.own b k) : k < w.heap.size := by
  rcases hk with rfl | ⟨i, hi, hk⟩ | rfl | rfl
  · exact (Array.getElem?_eq_some_iff.1 h.blk).1
  · exact ownsRow_lt (h.row i hi) hk
  · exact h.mt.lt
  · exact h.mr.lt
theorem GM.keep {w w' : World} {b : Nat} {G : Gg} (h : GM w b G) (hs : ∀ k, G.own b k → w'.heap[k]? = w.heap[k]?) : GM w' b G :=
  ⟨(hs b (.inl rfl)).trans h.blk, fun i hi => ownsRow_keep (h.row i hi) (fun k hk => hs k (.inr (.inl ⟨i, hi, hk⟩))), h.mt.keep (hs _ (.inr (.inr (.inl rfl)))), h.mr.keep (hs _ (.inr (.inr (.inr rfl)))), h.d1, h.d2, h.d3⟩
theorem GM.apart {w w' : World} {b : Nat} {G : Gg} {O : Nat → Prop} (h : GM w b G) (hc : Ch O w w') (hd : ∀ k, G.own b k → ¬ O k) : GM w' b G := h.keep fun k hk => hc.same k (h.lt hk) (hd k hk)
theorem GM.quiet {w w' : World} {b : Nat} {G : Gg} (h : GM w b G) (hc : Ch (fun _ => False) w w') : GM w' b G := h.apart hc fun _ _ h => h
def Gg.setRow (G : Gg) (i : Nat) (v' : Value) (ys : List Value) : Gg := { G with v := fun j => if j = i then v' else G.v j, xs := fun j => if j = i then ys else G.xs j }
theorem setRow_v (G : Gg) (i : Nat) (v' : Value) (ys : List Value) : (G.setRow i v' ys).v i = v' := by simp [Gg.setRow]
theorem setRow_x (G : Gg) (i : Nat) (v' : Value) (ys : List Value) : (G.setRow i v' ys).xs i = ys := by simp [Gg.setRow]
theorem setRow_vo (G : Gg) {i j : Nat} (v' : Value) (ys : List Value) (h : j ≠ i) : (G.setRow i v' ys).v j = G.v j := by simp [Gg.setRow, h]
theorem setRow_xo (G : Gg) {i j : Nat} (v' : Value) (ys : List Value) (h : j ≠ i) : (G.setRow i v' ys).xs j = G.xs j := by simp [Gg.setRow, h]
theorem setRow_own {G : Gg} {i b : Nat} {v' : Value} {ys : List Value} {w : World} (hi : i < 7) (hm : ∀ k, v'.ownBlock = some k → (G.v i).ownBlock = some k ∨ w.heap.size ≤ k) : More w (G.own b) ((G.setRow i v' ys).own b) := by
  rintro k (h | ⟨j, hj, h⟩ | h | h)
  · exact .inl (.inl h)
  · by_cases e : j = i
    · subst e
      rw [setRow_v] at h
      rcases hm k h with h | h
      · exact .inl (.inr (.inl ⟨j, hj, h⟩))
      · exact .inr h
    · rw [setRow_vo _ _ _ e] at h
      exact .inl (.inr (.inl ⟨j, hj, h⟩))
  · exact .inl (.inr (.inr (.inl h)))
  · exact .inl (.inr (.inr (.inr h)))
/-- A row is another one now: of its own block, or of a new one. -/
theorem GM.app {w w1 : World} {b : Nat} {G : Gg} (h : GM w b G) {i : Nat} (hi : i < 7) {v' : Value} {ys : List Value} (hown : w1.ownsRow 0 (el i) 1 v' ys.length ys) (hch : Ch (fun k => (G.v i).ownBlock = some k) w w1)
    (hblk : ∀ k, v'.ownBlock = some k → (G.v i).ownBlock = some k ∨ w.heap.size ≤ k) : GM (w1.setCell ⟨b, i, none⟩ v') b (G.setRow i v' ys) ∧ Ch (G.own b) w (w1.setCell ⟨b, i, none⟩ v') ∧ More w (G.own b) ((G.setRow i v' ys).own b) := by
  have hb := h.lt (.inl rfl : G.own b b)
  have hb1 : w1.heap[b]? = w.heap[b]? := hch.same b hb (h.d2 i hi).1
  have hvb : v'.ownBlock ≠ some b := fun e => by
    rcases hblk b e with e | e
    · exact (h.d2 i hi).1 e
    · omega
  have hset : ∀ k, k ≠ b → (w1.setCell ⟨b, i, none⟩ v').heap[k]? = w1.heap[k]? := fun k hk => Below.heap_setCell w1 _ v' k hk
  have hold : ∀ k, k < w.heap.size → k ≠ b → (G.v i).ownBlock ≠ some k → (w1.setCell ⟨b, i, none⟩ v').heap[k]? = w.heap[k]? := fun k hk h1 h2 => (hset k h1).trans (hch.same k hk h2)
  refine ⟨⟨?_, fun j hj => ?_, ?_, ?_, fun j l k hj hl h1 h2 => ?_, fun j hj => ?_, h.d3⟩, ?_, setRow_own hi hblk⟩
  · rw [blk_set (hb1.trans h.blk)]
    have : i = 0 ∨ i = 1 ∨ i = 2 ∨ i = 3 ∨ i = 4 ∨ i = 5 ∨ i = 6 := by omega
    rcases this with rfl | rfl | rfl | rfl | rfl | rfl | rfl <;> simp [Gg.setRow]
  · by_cases e : j = i
    · subst e
      rw [setRow_v, setRow_x]
      exact ownsRow_keep hown (fun k hk => hset k (fun e => hvb (e ▸ hk)))
    · rw [setRow_vo _ _ _ e, setRow_xo _ _ _ e]
      exact ownsRow_keep (h.row j hj) (fun k hk => hold k (ownsRow_lt (h.row j hj) hk) (fun e => (h.d2 j hj).1 (e ▸ hk)) (fun e2 => e (h.d1 j i k hj hi hk e2)))
  · exact h.mt.keep (hold _ h.mt.lt (fun e => h.d3.1 e.symm) (h.d2 i hi).2.1)
  · exact h.mr.keep (hold _ h.mr.lt (fun e => h.d3.2.1 e.symm) (h.d2 i hi).2.2)
  · by_cases e1 : j = i <;> by_cases e2 : l = i
    · rw [e1, e2]
    · subst e1
      rw [setRow_v] at h1
      rw [setRow_vo _ _ _ e2] at h2
      rcases hblk k h1 with e | e
      · exact h.d1 _ _ k hj hl e h2
      · have := ownsRow_lt (h.row l hl) h2; omega
    · subst e2
      rw [setRow_v] at h2
      rw [setRow_vo _ _ _ e1] at h1
      rcases hblk k h2 with e | e
      · exact h.d1 _ _ k hj hl h1 e
      · have := ownsRow_lt (h.row j hj) h1; omega
    · rw [setRow_vo _ _ _ e1] at h1
      rw [setRow_vo _ _ _ e2] at h2
      exact h.d1 _ _ k hj hl h1 h2
  · by_cases e : j = i
    · subst e
      rw [setRow_v]
      have ht := h.mt.lt
      have hr := h.mr.lt
      refine ⟨hvb, fun e => ?_, fun e => ?_⟩
      · rcases hblk _ e with e | e
        · exact (h.d2 j hj).2.1 e
        · show False
          have : G.t < w.heap.size := ht
          exact absurd (show w.heap.size ≤ G.t from e) (by omega)
      · rcases hblk _ e with e | e
        · exact (h.d2 j hj).2.2 e
        · have : G.r < w.heap.size := hr
          exact absurd (show w.heap.size ≤ G.r from e) (by omega)
    · rw [setRow_vo _ _ _ e]; exact h.d2 j hj
  · exact (hch.mono (fun k hk => .inr (.inl ⟨i, hi, hk⟩))).trans (Ch.setCell (O := G.own b) w1 ⟨b, i, none⟩ v' (.inl rfl)) (fun k hk => .inl hk)
/-- A cell of a row is turned. -/
theorem GM.set {w : World} {b : Nat} {G : Gg} (h : GM w b G) {i j : Nat} (hi : i < 7) (hj : j < (G.xs i).length) (u : Value) {g n cap : Nat} (hv : G.v i = .slice (some ⟨g, 0, none⟩) n cap) :
    GM (w.setCell ⟨g, j, none⟩ u) b (G.setRow i (G.v i) ((G.xs i).set j u)) ∧ Ch (G.own b) w (w.setCell ⟨g, j, none⟩ u) := by
  have hg : (G.v i).ownBlock = some g := by rw [hv]; rfl
  have hrow := h.row i hi
  have hn : n = (G.xs i).length := by
    rw [hv] at hrow
    obtain ⟨a, c, e, _⟩ := row_slice hrow
    cases e
    rfl
  have hset : ∀ k, k ≠ g → (w.setCell ⟨g, j, none⟩ u).heap[k]? = w.heap[k]? := fun k hk => Below.heap_setCell w _ u k hk
  have hv' : ∀ l, (G.setRow i (G.v i) ((G.xs i).set j u)).v l = G.v l := fun l => by
    by_cases e : l = i
    · subst e; exact setRow_v _ _ _ _
    · exact setRow_vo _ _ _ e
  refine ⟨⟨?_, fun l hl => ?_, ?_, ?_, fun l m k hl hm h1 h2 => ?_, fun l hl => ?_, h.d3⟩, Ch.setCell w _ u (.inr (.inl ⟨i, hi, hg⟩))⟩
  · simp only [hv']
    exact (hset b (fun e => (h.d2 i hi).1 (e ▸ hg))).trans h.blk
  · rw [hv']
    by_cases e : l = i
    · subst e
      rw [setRow_x, List.length_set]
      rw [hv, ← hn] at hrow ⊢
      exact own_set hrow j u hj
    · rw [setRow_xo _ _ _ e]
      exact ownsRow_keep (h.row l hl) (fun k hk => hset k (fun e2 => e (h.d1 l i k hl hi hk (e2 ▸ hg))))
  · exact h.mt.keep (hset _ (fun e => (h.d2 i hi).2.1 (e ▸ hg)))
  · exact h.mr.keep (hset _ (fun e => (h.d2 i hi).2.2 (e ▸ hg)))
  · rw [hv'] at h1 h2; exact h.d1 _ _ k hl hm h1 h2
  · rw [hv']; exact h.d2 l hl
/-- A cell of a row. -/
theorem GM.at {w : World} {b : Nat} {G : Gg} (h : GM w b G) {i j : Nat} (hi : i < 7) {u : Value} (hu : (G.xs i)[j]? = some u) : ∃ g cap, G.v i = .slice (some ⟨g, 0, none⟩) (G.xs i).length cap ∧ w.cell? ⟨g, j, none⟩ = some u ∧ w.frozen? ⟨g, j, none⟩ = false ∧ j < (G.xs i).length := by
  have hrow := h.row i hi
  have hl := (List.getElem?_eq_some_iff.1 hu).1
  obtain ⟨a, cap, e, h1, _⟩ := row_slice hrow
  obtain ⟨g, rfl⟩ : ∃ g, a = some ⟨g, 0, none⟩ := by rcases h1 with h1 | h1; omega; exact h1
  rw [e] at hrow
  exact ⟨g, cap, e, row_cell hrow j u hu, own_frozen hrow j, hl⟩
theorem GM.cells {w : World} {b : Nat} {G : Gg} (h : GM w b G) : w.cell? ⟨b, 0, none⟩ = some (G.v 0) ∧ w.cell? ⟨b, 1, none⟩ = some (G.v 1) ∧ w.cell? ⟨b, 2, none⟩ = some (G.v 2) ∧ w.cell? ⟨b, 3, none⟩ = some (G.v 3) ∧ w.cell? ⟨b, 4, none⟩ = some (G.v 4) ∧ w.cell? ⟨b, 5, none⟩ = some (G.v 5) ∧ w.cell? ⟨b, 6, none⟩ = some (G.v 6) ∧ w.cell? ⟨b, 7, none⟩ = some (.map (some G.t)) ∧ w.cell? ⟨b, 8, none⟩ = some (.map (some G.r)) := by
  refine ⟨?_, ?_, ?_, ?_, ?_, ?_, ?_, ?_, ?_⟩ <;> (unfold World.cell?; rw [h.blk]; rfl)
theorem GM.frozen {w : World} {b : Nat} {G : Gg} (h : GM w b G) (i : Nat) : w.frozen? ⟨b, i, none⟩ = false := by
  unfold World.frozen?; rw [h.blk]; simp
theorem GM.slice {w : World} {b : Nat} {G : Gg} (h : GM w b G) {i : Nat} (hi : i < 7) : ∃ a cap, G.v i = .slice a (G.xs i).length cap ∧ ((G.xs i).length = 0 ∨ ∃ g, a = some ⟨g, 0, none⟩) ∧ (G.xs i).length ≤ cap := row_slice (h.row i hi)
end Go.Proofs.Ytcogpcalghfghaa
