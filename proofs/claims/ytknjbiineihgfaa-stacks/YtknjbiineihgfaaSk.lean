/-
  The program's Close.
-/
import Derived.Test.YtknjbiineihgfaaSj
set_option linter.unusedVariables false
set_option linter.unusedSimpArgs false
namespace Go.Proofs.Ytknjbiineihgfaa
open Go.RowKit

theorem StM.row_some {D : Nat → Prop} {w : World} {b : Nat} {T : TypeId} {v : Value} {S : List Sn} {z : Sn} (h : StM D w b T v S z) (hn : 0 < S.length) : ∃ g cap, v = .slice (some ⟨g, 0, none⟩) S.length cap ∧ g ≠ b ∧ g < w.heap.size := by
  have hrow := h.row
  rcases hrow.2 with ⟨_, h0⟩ | ⟨g, cap, cur, rfl, _, hg, _⟩
  · omega
  · exact ⟨g, cap, rfl, fun e => h.ne (by rw [← e]; rfl), ownsRow_lt hrow rfl⟩

set_option maxHeartbeats 1000000 in
theorem close_frames {D : Nat → Prop} (w : World) (b : Nat) (v : Value) (S : List Sn) (z : Sn) (h : StM D w b 61 v S z) (hz : 0 < z.s.l.length) :
    Calls Try.prog 15 #[.pointer (some ⟨b, 0, none⟩)] w fun e w' => e = .returned (.tuple #[.int .i64 0, .bool false, .bool false]) ∧ w' = w := by
  obtain ⟨c0, c1, c2, c3, c4, c5, hf⟩ := h.cells
  have hpos : (0 : Int) < (z.s.l.length : Int) := by omega
  go_enter Try.func15, Try.ntmps15
  go_wp2
  refine bodyPost_ret (v := .tuple #[.int .i64 0, .bool false, .bool false]) (by simp [results, Try.results15, go_sem]) rfl ?_
  exact ⟨rfl, rfl⟩
set_option maxHeartbeats 1000000 in
theorem close_first {D : Nat → Prop} (w : World) (b : Nat) (v : Value) (z : Sn) (h : StM D w b 61 v [] z) (hz : z.s.l = []) :
    Calls Try.prog 15 #[.pointer (some ⟨b, 0, none⟩)] w fun e w' => e = .returned (.tuple #[.int .i64 0, .bool false, .bool false]) ∧ w' = w := by
  obtain ⟨c0, c1, c2, c3, c4, c5, hf⟩ := h.cells
  obtain ⟨a, cap, rfl, ha, hcap⟩ := row_slice h.row
  rw [hz] at c2
  have hseg := segments_any w b 0 a cap c0 (by omega)
  go_enter Try.func15, Try.ntmps15
  go_wp2_with (go_at_call 22; refine hseg.mono ?_; clear hseg; rintro e w ⟨rfl, rfl⟩; dsimp only)
  refine bodyPost_ret (v := .tuple #[.int .i64 0, .bool false, .bool false]) (by simp [results, Try.results15, go_sem]) rfl ?_
  exact ⟨rfl, rfl⟩

/-- The row of a stack is what split left ahead. -/
theorem StM.cutrow {D : Nat → Prop} {w w1 w2 : World} {b g cap : Nat} {T : TypeId} {S A : List Sn} {z x : Sn} {n : Nat} (h : StM D w b T (.slice (some ⟨g, 0, none⟩) S.length cap) S z) (hDl : ∀ k, D k → k < w.heap.size) (hc1 : Ch (fun k => k = g) w w1)
    (hrow1 : w1.ownsRow 0 57 4 (.slice (some ⟨g, 0, none⟩) n cap) n (A.flatMap Sn.cells)) (hA : A.length = n) (hc2 : Ch (fun k => k = b) w1 w2) (hb2 : w2.heap[b]? = some (.cells (rowCells (.slice (some ⟨g, 0, none⟩) n cap) A x) T (0, 0))) (hsub : ∀ y ∈ A ++ [x], y ∈ S ++ [z]) :
    StM D w2 b T (.slice (some ⟨g, 0, none⟩) n cap) A x ∧ Ch (own b (.slice (some ⟨g, 0, none⟩) S.length cap)) w w2 ∧ More w (own b (.slice (some ⟨g, 0, none⟩) S.length cap)) (own b (.slice (some ⟨g, 0, none⟩) n cap)) :=
  h.rerow (S' := A) (z' := x) hDl (hc1.mono (fun k e => by subst e; rfl)) (by rw [hA]; exact hrow1) (fun k hk => .inl hk) hc2 hb2 (fun y hy => h.ch y (hsub y hy))

theorem al1 {w W : World} {g : Nat} (hc : Ch (fun k => k = g) (w.alloc (.cells #[.slice none 0 0, .pointer none, .int .i64 0, .int .i64 0, .bool false, .int .i64 0] 59)).drew W) (hg : g < w.heap.size) :
    W.heap[w.heap.size]? = some (.cells #[.slice none 0 0, .pointer none, .int .i64 0, .int .i64 0, .bool false, .int .i64 0] 59 (0, 0)) ∧ w.heap.size + 1 ≤ W.heap.size := by
  have h1 := hc.same w.heap.size (by simp) (by omega)
  refine ⟨h1.trans (World.alloc_heap_new w _), ?_⟩
  have := hc.size
  simpa using this
theorem al2 {w W : World} {g : Nat} (hc : Ch (fun k => k = g) ((w.alloc (.cells #[.slice none 0 0, .pointer none, .int .i64 0, .int .i64 0, .bool false, .int .i64 0] 59)).alloc (.cells #[.slice none 0 0, .pointer none, .int .i64 0, .int .i64 0, .bool false, .int .i64 0] 59)).drew W) (hg : g < w.heap.size) :
    W.heap[w.heap.size]? = some (.cells #[.slice none 0 0, .pointer none, .int .i64 0, .int .i64 0, .bool false, .int .i64 0] 59 (0, 0)) ∧ W.heap[w.heap.size + 1]? = some (.cells #[.slice none 0 0, .pointer none, .int .i64 0, .int .i64 0, .bool false, .int .i64 0] 59 (0, 0)) ∧ w.heap.size + 2 ≤ W.heap.size := by
  have h1 := hc.same w.heap.size (by simp; omega) (by omega)
  have h2 := hc.same (w.heap.size + 1) (by simp) (by omega)
  refine ⟨h1.trans (blk_alloc (World.alloc_heap_new w _)), h2.trans ?_, ?_⟩
  · have := World.alloc_heap_new (w.alloc (.cells #[.slice none 0 0, .pointer none, .int .i64 0, .int .i64 0, .bool false, .int .i64 0] 59)) (.cells #[.slice none 0 0, .pointer none, .int .i64 0, .int .i64 0, .bool false, .int .i64 0] 59)
    rw [World.size_alloc] at this
    exact this
  · have := hc.size
    simp at this
    omega

abbrev set6 (W : World) (A : Nat) (a0 a1 a2 a3 a4 a5 : Value) : World := (((((W.setCell ⟨A, 0, none⟩ a0).setCell ⟨A, 1, none⟩ a1).setCell ⟨A, 2, none⟩ a2).setCell ⟨A, 3, none⟩ a3).setCell ⟨A, 4, none⟩ a4).setCell ⟨A, 5, none⟩ a5
theorem set6_at {W : World} {A : Nat} {T : TypeId} {z0 z1 z2 z3 z4 z5 : Value} (a0 a1 a2 a3 a4 a5 : Value) (h : W.heap[A]? = some (.cells #[z0, z1, z2, z3, z4, z5] T (0, 0))) : (set6 W A a0 a1 a2 a3 a4 a5).heap[A]? = some (.cells #[a0, a1, a2, a3, a4, a5] T (0, 0)) := by
  rw [blk_set (blk_set (blk_set (blk_set (blk_set (blk_set h)))))]
  simp
theorem set6_other (W : World) {A k : Nat} (a0 a1 a2 a3 a4 a5 : Value) (h : k ≠ A) : (set6 W A a0 a1 a2 a3 a4 a5).heap[k]? = W.heap[k]? := by
  rw [Below.heap_setCell _ _ _ k (by exact h), Below.heap_setCell _ _ _ k (by exact h), Below.heap_setCell _ _ _ k (by exact h), Below.heap_setCell _ _ _ k (by exact h), Below.heap_setCell _ _ _ k (by exact h), Below.heap_setCell _ _ _ k (by exact h)]
theorem set6_size (W : World) (A : Nat) (a0 a1 a2 a3 a4 a5 : Value) : (set6 W A a0 a1 a2 a3 a4 a5).heap.size = W.heap.size := by simp
theorem set6_ch {O : Nat → Prop} (W : World) {A : Nat} (a0 a1 a2 a3 a4 a5 : Value) (h : O A) : Ch O W (set6 W A a0 a1 a2 a3 a4 a5) := by
  unfold set6
  exact ((((((Ch.refl O W).set (a := ⟨A, 0, none⟩) h a0).set (a := ⟨A, 1, none⟩) h a1).set (a := ⟨A, 2, none⟩) h a2).set (a := ⟨A, 3, none⟩) h a3).set (a := ⟨A, 4, none⟩) h a4).set (a := ⟨A, 5, none⟩) h a5
/-- Two boxes of rows have been laid since the world of size n; of what lay in W, what lies below n is as it was. -/
structure Two (n : Nat) (W E : World) (A5 A6 : Nat) (X5 X6 : Array Value) : Prop where
  h5 : E.heap[A5]? = some (.cells X5 59 (0, 0))
  h6 : E.heap[A6]? = some (.cells X6 59 (0, 0))
  ch : Ch (fun k => n ≤ k) W E
  l5 : n ≤ A5
  l6 : n ≤ A6
  ne : A5 ≠ A6
section
variable {n : Nat} {W : World} {a0 a1 a2 a3 a4 a5 b0 b1 b2 b3 b4 b5 : Value}
theorem Two.a (hn : n ≤ W.heap.size) : Two n W ((W.alloc (.cells #[a0, a1, a2, a3, a4, a5] 59)).alloc (.cells #[b0, b1, b2, b3, b4, b5] 59)) W.heap.size (W.heap.size + 1) #[a0, a1, a2, a3, a4, a5] #[b0, b1, b2, b3, b4, b5] :=
  ⟨blk_alloc (World.alloc_heap_new _ _), by have := World.alloc_heap_new (W.alloc (.cells #[a0, a1, a2, a3, a4, a5] 59)) (.cells #[b0, b1, b2, b3, b4, b5] 59); rwa [World.size_alloc] at this, ((Ch.refl _ W).al _).al _, hn, by omega, by omega⟩
theorem Two.swap {E : World} {A5 A6 : Nat} {X5 X6 : Array Value} (h : Two n W E A6 A5 X6 X5) : Two n W E A5 A6 X5 X6 := ⟨h.h6, h.h5, h.ch, h.l6, h.l5, fun e => h.ne e.symm⟩
theorem Two.c {z0 z1 z2 z3 z4 z5 : Value} {A : Nat} (hA : W.heap[A]? = some (.cells #[z0, z1, z2, z3, z4, z5] 59 (0, 0))) (hn : n ≤ A) : Two n W ((set6 W A a0 a1 a2 a3 a4 a5).alloc (.cells #[b0, b1, b2, b3, b4, b5] 59)) A W.heap.size #[a0, a1, a2, a3, a4, a5] #[b0, b1, b2, b3, b4, b5] := by
  have hl := (Array.getElem?_eq_some_iff.1 hA).1
  refine ⟨blk_alloc (set6_at _ _ _ _ _ _ hA), ?_, (set6_ch W _ _ _ _ _ _ hn).al _, hn, by omega, by omega⟩
  have := World.alloc_heap_new (set6 W A a0 a1 a2 a3 a4 a5) (.cells #[b0, b1, b2, b3, b4, b5] 59)
  rwa [set6_size] at this
theorem Two.d {z0 z1 z2 z3 z4 z5 y0 y1 y2 y3 y4 y5 : Value} {A B : Nat} (hA : W.heap[A]? = some (.cells #[z0, z1, z2, z3, z4, z5] 59 (0, 0))) (hB : W.heap[B]? = some (.cells #[y0, y1, y2, y3, y4, y5] 59 (0, 0))) (hn : n ≤ A) (hm : n ≤ B) (hne : A ≠ B) :
    Two n W (set6 (set6 W A a0 a1 a2 a3 a4 a5) B b0 b1 b2 b3 b4 b5) A B #[a0, a1, a2, a3, a4, a5] #[b0, b1, b2, b3, b4, b5] :=
  ⟨(set6_other _ _ _ _ _ _ _ hne).trans (set6_at _ _ _ _ _ _ hA), set6_at _ _ _ _ _ _ ((set6_other _ _ _ _ _ _ _ hne.symm).trans hB), (set6_ch W _ _ _ _ _ _ hn).trans (set6_ch _ _ _ _ _ _ _ hm) (fun _ h => .inl h), hn, hm, hne⟩
end

end Go.Proofs.Ytknjbiineihgfaa
