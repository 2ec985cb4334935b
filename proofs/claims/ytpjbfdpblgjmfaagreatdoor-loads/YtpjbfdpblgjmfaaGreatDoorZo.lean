/-
  The program's split.
-/
import Derived.Test.YtpjbfdpblgjmfaaGreatDoorMZk
import Derived.Test.YtpjbfdpblgjmfaaGreatDoorZd
set_option linter.unusedVariables false
set_option linter.unusedSimpArgs false
namespace Go.Proofs.YtpjbfdpblgjmfaaGreatDoor
open Go.RowKit

/-- What split knows of the memory: the row that it splits, and its two results. -/
structure SpW (O : Nat → Prop) (w W : World) (b : Nat) (T : TypeId) (v : Value) (S : List Sn) (z : Sn) (A0 A1 : Array Value) : Prop where
  ch : Ch O w W
  blk : W.heap[b]? = some (.cells (rowCells v S z) T (0, 0))
  r0 : W.heap[w.heap.size]? = some (.cells A0 99 (0, 0))
  r1 : W.heap[w.heap.size + 1]? = some (.cells A1 99 (0, 0))
theorem SpW.drew {O : Nat → Prop} {w W : World} {b : Nat} {T : TypeId} {v : Value} {S : List Sn} {z : Sn} {A0 A1 : Array Value} (h : SpW O w W b T v S z A0 A1) : SpW O w W.drew b T v S z A0 A1 := ⟨h.ch.dr, h.blk, h.r0, h.r1⟩
theorem SpW.set1 {O : Nat → Prop} {w W : World} {b : Nat} {T : TypeId} {v : Value} {S : List Sn} {z : Sn} {A0 A1 : Array Value} (h : SpW O w W b T v S z A0 A1) (hb : b < w.heap.size) (i : Nat) (u : Value) : SpW O w (W.setCell ⟨w.heap.size + 1, i, none⟩ u) b T v S z A0 (A1.setIfInBounds i u) :=
  ⟨h.ch.trans (O1 := fun k => w.heap.size ≤ k) (Ch.setCell _ _ _ (by simp)) (fun k hk => .inr hk), blk_other h.blk (by simp; omega), blk_other h.r0 (by simp), blk_set h.r1⟩
theorem SpW.set0 {O : Nat → Prop} {w W : World} {b : Nat} {T : TypeId} {v : Value} {S : List Sn} {z : Sn} {A0 A1 : Array Value} (h : SpW O w W b T v S z A0 A1) (hb : b < w.heap.size) (i : Nat) (u : Value) : SpW O w (W.setCell ⟨w.heap.size, i, none⟩ u) b T v S z (A0.setIfInBounds i u) A1 :=
  ⟨h.ch.trans (O1 := fun k => w.heap.size ≤ k) (Ch.setCell _ _ _ (by simp)) (fun k hk => .inr hk), blk_other h.blk (by simp; omega), blk_set h.r0, blk_other h.r1 (by simp)⟩
theorem SpW.grown {O : Nat → Prop} {w W W' : World} {b : Nat} {T : TypeId} {v : Value} {S : List Sn} {z : Sn} {A0 A1 : Array Value} (h : SpW O w W b T v S z A0 A1) (hg : W.grownBy W' none) : SpW O w W' b T v S z A0 A1 :=
  ⟨h.ch.trans (Ch.grown hg (fun k e => by cases e)) (fun k hk => .inl hk), (hg.block b (Array.getElem?_eq_some_iff.1 h.blk).1 (by simp)).trans h.blk, (hg.block _ (Array.getElem?_eq_some_iff.1 h.r0).1 (by simp)).trans h.r0, (hg.block _ (Array.getElem?_eq_some_iff.1 h.r1).1 (by simp)).trans h.r1⟩
theorem SpW.del {O : Nat → Prop} {w W W' : World} {b g : Nat} {T : TypeId} {v : Value} {S : List Sn} {z : Sn} {A0 A1 : Array Value} (h : SpW O w W b T v S z A0 A1) (hc : Ch (fun k => k = g) W W') (hO : ∀ k, O k → k = g) (hgb : g ≠ b) (hg : g < w.heap.size) : SpW (fun k => k = g) w W' b T v S z A0 A1 :=
  ⟨(h.ch.mono hO).trans hc (fun k hk => .inl hk), (hc.same b (Array.getElem?_eq_some_iff.1 h.blk).1 (fun e => hgb e.symm)).trans h.blk, (hc.same _ (Array.getElem?_eq_some_iff.1 h.r0).1 (by omega)).trans h.r0, (hc.same _ (Array.getElem?_eq_some_iff.1 h.r1).1 (by omega)).trans h.r1⟩
theorem flat_get (S : List Sn) : ∀ (i j : Nat) (x : Sn), S[i]? = some x → j < 4 → (S.flatMap Sn.cells)[i * 4 + j]? = x.cells[j]? := by
  induction S with
  | nil => intro i j x h; simp at h
  | cons s r ih =>
    intro i j x h hj
    have e4 : s.cells.length = 4 := rfl
    cases i with
    | zero =>
      obtain rfl : s = x := by simpa using h
      rw [List.flatMap_cons, List.getElem?_append_left (by omega)]
      simp
    | succ i =>
      rw [List.flatMap_cons, List.getElem?_append_right (by omega), e4, show (i + 1) * 4 + j - 4 = i * 4 + j by omega]
      exact ih i j x (by simpa using h) hj
theorem cntN_le_take (L : List Sn) (m : Nat) : cntN (L.take m) ≤ cntN L := by
  conv => rhs; rw [← List.take_append_drop m L, cntN_append]
  omega
theorem cntN_drop (L : List Sn) (m : Nat) : cntN (L.take m) + cntN (L.drop m) = cntN L := by
  rw [← cntN_append, List.take_append_drop]
theorem cntN_one (x : Sn) : cntN [x] = x.s.l.length := by simp [cntN]
/-- A result's cells. -/
theorem six_cells {W : World} {b : Nat} {T : TypeId} {a0 a1 a2 a3 a4 a5 : Value} (hb : W.heap[b]? = some (.cells #[a0, a1, a2, a3, a4, a5] T (0, 0))) :
    W.cell? ⟨b, 0, none⟩ = some a0 ∧ W.cell? ⟨b, 1, none⟩ = some a1 ∧ W.cell? ⟨b, 2, none⟩ = some a2 ∧ W.cell? ⟨b, 3, none⟩ = some a3 ∧ W.cell? ⟨b, 4, none⟩ = some a4 ∧ W.cell? ⟨b, 5, none⟩ = some a5 ∧ ∀ i, W.frozen? ⟨b, i, none⟩ = false := by
  refine ⟨?_, ?_, ?_, ?_, ?_, ?_, fun i => ?_⟩ <;> simp [World.cell?, World.frozen?, hb]
def zRow : Array Value := #[.slice none 0 0, .pointer none, .int .i64 0, .pointer none, .bool false, .int .i64 0]

set_option maxRecDepth 100000 in
set_option maxHeartbeats 8000000 in
theorem split_any (w : World) (b : Nat) (T : TypeId) (g cap : Nat) (S : List Sn) (z : Sn) (n : Nat) (x : Sn) (hb : w.heap[b]? = some (.cells (rowCells (.slice (some ⟨g, 0, none⟩) S.length cap) S z) T (0, 0)))
    (hrow : w.ownsRow 0 97 4 (.slice (some ⟨g, 0, none⟩) S.length cap) S.length (S.flatMap Sn.cells)) (hgb : g ≠ b) (hn : n < S.length) (hx : S[n]? = some x) (hl : S.length < 100000000) (hcn : cntN (S ++ [z]) < 1000000000) :
    Calls Tryz.prog 65 #[.pointer (some ⟨b, 0, none⟩), .int .i64 ((n + 1 : Nat) : Int)] w fun e w' => ∃ v2, 
      e = .returned (.tuple #[.agg (rowCells (.slice (some ⟨g, 0, none⟩) n cap) (S.take n) x), .agg (rowCells v2 (S.drop (n + 1)) z)]) ∧
      w'.ownsRow 0 97 4 (.slice (some ⟨g, 0, none⟩) n cap) n ((S.take n).flatMap Sn.cells) ∧ w'.ownsRow 0 97 4 v2 (S.drop (n + 1)).length ((S.drop (n + 1)).flatMap Sn.cells) ∧
      (∀ k, v2.ownBlock = some k → w.heap.size ≤ k) ∧ Ch (fun k => k = g) w w' := by
  have hbl : b < w.heap.size := (Array.getElem?_eq_some_iff.1 hb).1
  have hmx : Tryz.prog.follows .mixedOrders = true := by kernel_rfl
  go_enter Tryz.func65, Tryz.ntmps65
  go_upto_region 1 with (fail)
  obtain ⟨W0, hW0⟩ : ∃ W0, (w.alloc (.cells zRow 99)).alloc (.cells zRow 99) = W0 := ⟨_, rfl⟩
  have H0 : SpW (fun _ => False) w W0 b T (.slice (some ⟨g, 0, none⟩) S.length cap) S z zRow zRow := by
    rw [← hW0]
    refine ⟨((Ch.refl _ w).al _).al _, blk_alloc (blk_alloc hb), blk_alloc (World.alloc_heap_new w _), ?_⟩
    have := World.alloc_heap_new (w.alloc (.cells zRow 99)) (.cells zRow 99)
    rwa [World.size_alloc] at this
  unfold zRow at hW0
  rw [hW0]
  clear hW0
  obtain ⟨B, hB⟩ : ∃ B, S.drop (n + 1) = B := ⟨_, rfl⟩
  have hBl : S.length = n + 1 + B.length := by rw [← hB]; simp; omega
  have hcap : S.length ≤ cap ∧ cap ≤ maxLen := by
    rcases hrow.2 with ⟨h0, _⟩ | ⟨g', cap', cur, h0, _, hg, h1, h2, _⟩
    · cases h0
    · cases h0; exact ⟨h1, h2⟩
  have hcap1 := hcap.1
  have hcap2 := hcap.2
  unfold maxLen at hcap2
  obtain ⟨q, hq, hqB⟩ : ∃ q : Addr, (if cap = n + 1 then some (⟨g, 0, none⟩ : Addr) else some ⟨g, (n + 1) * 4, none⟩) = some q ∧ ∀ j u, (B.flatMap Sn.cells)[j]? = some u → W0.cell? (q.add j) = some u := by
    by_cases e : cap = n + 1
    · refine ⟨⟨g, 0, none⟩, by rw [if_pos e], fun j u hj => ?_⟩
      have : B = [] := by rw [← List.length_eq_zero_iff]; omega
      rw [this] at hj
      simp at hj
    · refine ⟨⟨g, (n + 1) * 4, none⟩, by rw [if_neg e], fun j u hj => ?_⟩
      have hj2 : (S.flatMap Sn.cells)[(n + 1) * 4 + j]? = some u := by
        have e2 : S = S.take (n + 1) ++ B := by rw [← hB, List.take_append_drop]
        rw [e2, List.flatMap_append, List.getElem?_append_right (by rw [flat_len]; simp; omega), flat_len]
        rw [show (n + 1) * 4 + j - (S.take (n + 1)).length * 4 = j by simp; omega]
        exact hj
      have := row_cell hrow _ _ hj2
      have hgl : g < w.heap.size := ownsRow_lt hrow rfl
      have e3 := H0.ch.cell (p := ⟨g, (n + 1) * 4 + j, none⟩) hgl (fun h => h)
      rw [show (⟨g, (n + 1) * 4, none⟩ : Addr).add j = ⟨g, (n + 1) * 4 + j, none⟩ by simp [Addr.add]]
      exact e3.trans this
  have hlB : S.length - (n + 1) = B.length := by omega
  replace hBl := hid hBl
  replace hB := hid hB
  replace hlB := hid hlB
  obtain ⟨a0, a1, a2, a3, a4, a5, af⟩ := row_cells H0.blk
  obtain ⟨p0, p1, p2, p3, p4, p5, pf⟩ := six_cells H0.r1
  have k1 : (0 : Int) ≤ (n : Int) + 1 := by omega
  have k2 : (n : Int) + 1 ≤ (S.length : Int) := by omega
  have k3 : ((S.length : Nat) : Int) ≤ (cap : Int) := by omega
  refine wp_region_held_drew (S := (fun w' => w'.cell? ⟨b, 0, none⟩ = some (.slice (some ⟨g, 0, none⟩) S.length cap))) (by kernel_rfl) (by first | trivial | ((try dsimp only); go_keep)) (fun hHeld => ?_)
  refine wpAnyH_take (i := 0) (v := ?vva1) rfl (by kernel_rfl) (by kernel_rfl) (by kernel_rfl) (fun _ _ _ h => h) (Or.inl ⟨by rfl, ?yya1⟩) (by assumption) ?rra1
  case yya1 => (intro w' hSw; (try dsimp only at hSw); go_simp; (try with_reducible rfl))
  try simp only [Act.put, List.setIfInBounds_toArray, List.set_cons_zero, List.set_cons_succ]
  refine wpAnyH_take (i := 2) (v := ?vva2) rfl (by kernel_rfl) (by kernel_rfl) (by kernel_rfl) (fun _ _ _ h => h) (Or.inl ⟨by rfl, ?yya2⟩) (by assumption) ?rra2
  case yya2 => (intro w' hSw; (try dsimp only at hSw); go_simp; (try with_reducible rfl))
  try simp only [Act.put, List.setIfInBounds_toArray, List.set_cons_zero, List.set_cons_succ]
  refine wpAnyH_take (i := 3) (v := ?vva3) rfl (by kernel_rfl) (by kernel_rfl) (by kernel_rfl) (fun _ _ _ h => h) (Or.inl ⟨by rfl, ?yya3⟩) (by assumption) ?rra3
  case yya3 => (intro w' hSw; (try dsimp only at hSw); go_simp; (try with_reducible rfl))
  try simp only [Act.put, List.setIfInBounds_toArray, List.set_cons_zero, List.set_cons_succ]
  refine wpAnyH_take (i := 4) (v := ?vva4) rfl (by kernel_rfl) (by kernel_rfl) (by kernel_rfl) (fun _ _ _ h => h) (Or.inl ⟨by rfl, ?yya4⟩) (by assumption) ?rra4
  case yya4 => (intro w' hSw; (try dsimp only at hSw); go_simp; (try with_reducible rfl))
  try simp only [Act.put, List.setIfInBounds_toArray, List.set_cons_zero, List.set_cons_succ]
  refine wpAnyH_take (i := 5) (v := ?vva5) rfl (by kernel_rfl) (by kernel_rfl) (by kernel_rfl) (fun _ _ _ h => h) (Or.inl ⟨by rfl, ?yya5⟩) (by assumption) ?rra5
  case yya5 => (intro w' hSw; (try dsimp only at hSw); go_simp; (try with_reducible rfl))
  try simp only [Act.put, List.setIfInBounds_toArray, List.set_cons_zero, List.set_cons_succ]
  refine wpAnyH_take (i := 6) (v := ?vva6) rfl (by kernel_rfl) (by kernel_rfl) (by kernel_rfl) (fun _ _ _ h => h) (Or.inl ⟨by rfl, ?yya6⟩) (by assumption) ?rra6
  case yya6 => (intro w' hSw; (try dsimp only at hSw); go_simp; (try with_reducible rfl))
  try simp only [Act.put, List.setIfInBounds_toArray, List.set_cons_zero, List.set_cons_succ]
  refine wpAnyH_take (i := 7) (v := ?vva7) rfl (by kernel_rfl) (by kernel_rfl) (by kernel_rfl) (fun _ _ _ h => h) (Or.inl ⟨by rfl, ?yya7⟩) (by assumption) ?rra7
  case yya7 => (intro w' hSw; (try dsimp only at hSw); go_simp; (try with_reducible rfl))
  try simp only [Act.put, List.setIfInBounds_toArray, List.set_cons_zero, List.set_cons_succ]
  refine wpAnyH_ready (rs := [1]) (by kernel_rfl) (by simp) (AllReadyH.cons rfl (fun K hK => ?_) AllReadyH.nil)
  go_simp
  clear hHeld
  refine hK.out _ _ ?hs (fun hHeld => ?_)
  case hs => (first | trivial | ((try dsimp only); go_keep) | ((try dsimp only); simp [*, World.cell?_alloc_some, World.cell?_setCell_far, World.cell?_setCell_other]))
  clear hK K
  try simp only [Act.put, List.setIfInBounds_toArray, List.set_cons_zero, List.set_cons_succ]
  refine wpAnyH_ready (rs := [8]) (by kernel_rfl) (by simp) (AllReadyH.cons rfl (fun K hK => ?_) AllReadyH.nil)
  refine step_append rfl (.tmp 8) (.tmp 14) 94 rfl 97 (.agg #[.pointer none, .int .i64 0, .pointer none, .bool false]) 4 32 Tryz.underlying94 Tryz.infoS rfl (by decide) (.slice none 0 0) 0 [] (by simp [Act.eval]) ⟨rfl, .inl ⟨rfl, rfl⟩⟩ q (S.length - (n + 1)) (cap - (n + 1)) (B.flatMap Sn.cells) (by simp [Act.eval, hq]) (by rw [flat_len, hlB.out]) hqB (cells_one B) (by unfold maxLen; omega) (by omega) ?_
  intro v2 W1 hrow1 hgrow hblk
  have H1 : SpW (fun _ => False) w W1 b T (.slice (some ⟨g, 0, none⟩) S.length cap) S z zRow zRow := H0.drew.grown hgrow
  have hsz0 : w.heap.size ≤ W0.drew.heap.size := H0.ch.size
  have hv2 : ∀ k, v2.ownBlock = some k → w.heap.size ≤ k := by
    intro k hk
    rcases hblk with e | e
    · rw [e] at hk; cases hk
    · rw [e] at hk; cases hk; exact hsz0
  have hv3 : v2.ownBlock ≠ some w.heap.size ∧ v2.ownBlock ≠ some (w.heap.size + 1) := by
    have h1 := (Array.getElem?_eq_some_iff.1 H0.r1).1
    have h2 : W0.drew.heap.size = W0.heap.size := rfl
    constructor
    · intro e9
      rcases hblk with e | e
      · rw [e] at e9; cases e9
      · rw [e] at e9; simp only [Option.some.injEq] at e9; omega
    · intro e9
      rcases hblk with e | e
      · rw [e] at e9; cases e9
      · rw [e] at e9; simp only [Option.some.injEq] at e9; omega
  rw [Nat.zero_add, List.nil_append, hlB.out] at hrow1
  obtain ⟨ad2, cap2, rfl, ha2, hcap3⟩ := row_slice hrow1
  clear a0 a1 a2 a3 a4 a5 af p0 p1 p2 p3 p4 p5 pf
  obtain ⟨a0, a1, a2, a3, a4, a5, af⟩ := row_cells H1.blk
  obtain ⟨p0, p1, p2, p3, p4, p5, pf⟩ := six_cells H1.r1
  clear hgrow hblk hqB hq
  clear hHeld
  refine hK.out _ _ ?hs (fun hHeld => ?_)
  case hs => (first | trivial | ((try dsimp only); go_keep) | ((try dsimp only); simp [*, World.cell?_alloc_some, World.cell?_setCell_far, World.cell?_setCell_other]))
  clear hK K
  try simp only [Act.put, List.setIfInBounds_toArray, List.set_cons_zero, List.set_cons_succ]
  refine wpAnyH_take (i := 9) (v := ?vva8) rfl (by kernel_rfl) (by kernel_rfl) (by kernel_rfl) (fun _ _ _ h => h) (Or.inl ⟨by rfl, ?yya8⟩) (by assumption) ?rra8
  case yya8 => (intro w' hSw; (try dsimp only at hSw); go_simp; (try with_reducible rfl))
  try simp only [Act.put, List.setIfInBounds_toArray, List.set_cons_zero, List.set_cons_succ]
  refine wpAnyH_ready (rs := [10]) (by kernel_rfl) (by simp) (AllReadyH.cons rfl (fun K hK => ?_) AllReadyH.nil)
  go_simp
  clear hHeld
  refine hK.out _ _ ?hs (fun hHeld => ?_)
  case hs => (first | trivial | ((try dsimp only); go_keep) | ((try dsimp only); simp [*, World.cell?_alloc_some, World.cell?_setCell_far, World.cell?_setCell_other]))
  clear hK K
  try simp only [Act.put, List.setIfInBounds_toArray, List.set_cons_zero, List.set_cons_succ]
  refine wpAnyH_done (by kernel_rfl) ?_ _
  clear hHeld
  have H2 := H1.set1 hbl 0 (.slice ad2 B.length cap2)
  have hrow2 : (W1.setCell ⟨w.heap.size + 1, 0, none⟩ (.slice ad2 B.length cap2)).ownsRow 0 97 4 (.slice ad2 B.length cap2) B.length (B.flatMap Sn.cells) := ownsRow_keep hrow1 (fun k hk => Below.heap_setCell _ _ _ k (fun e => hv3.2 (by rw [hk, e])))
  clear a0 a1 a2 a3 a4 a5 af p0 p1 p2 p3 p4 p5 pf H1 hrow1
  generalize W1.setCell ⟨w.heap.size + 1, 0, none⟩ (.slice ad2 B.length cap2) = W2 at H2 hrow2 ⊢
  simp only [zRow, List.setIfInBounds_toArray, List.set_cons_zero, List.set_cons_succ] at H2
  obtain ⟨a0, a1, a2, a3, a4, a5, af⟩ := row_cells H2.blk
  obtain ⟨p0, p1, p2, p3, p4, p5, pf⟩ := six_cells H2.r1
  have hhB : B.length < 1000000000000 := by have := hBl.out; omega
  go_upto_region 3 with (fail)
  have H3 := (((H2.set1 hbl 1 (.pointer z.p)).set1 hbl 2 (.int .i64 z.s.l.length)).set1 hbl 3 (.pointer z.s.tag)).set1 hbl 4 (.bool z.s.has)
  have hrow3 : ((((W2.setCell ⟨w.heap.size + 1, 1, none⟩ (.pointer z.p)).setCell ⟨w.heap.size + 1, 2, none⟩ (.int .i64 z.s.l.length)).setCell ⟨w.heap.size + 1, 3, none⟩ (.pointer z.s.tag)).setCell ⟨w.heap.size + 1, 4, none⟩ (.bool z.s.has)).ownsRow 0 97 4 (.slice ad2 B.length cap2) B.length (B.flatMap Sn.cells) := ownsRow_keep hrow2 (fun k hk => by
    have hne : k ≠ w.heap.size + 1 := fun e => hv3.2 (by rw [hk, e])
    rw [Below.heap_setCell _ _ _ k (by exact hne), Below.heap_setCell _ _ _ k (by exact hne), Below.heap_setCell _ _ _ k (by exact hne), Below.heap_setCell _ _ _ k (by exact hne)])
  clear a0 a1 a2 a3 a4 a5 af p0 p1 p2 p3 p4 p5 pf H2 hrow2
  generalize (((W2.setCell ⟨w.heap.size + 1, 1, none⟩ (.pointer z.p)).setCell ⟨w.heap.size + 1, 2, none⟩ (.int .i64 z.s.l.length)).setCell ⟨w.heap.size + 1, 3, none⟩ (.pointer z.s.tag)).setCell ⟨w.heap.size + 1, 4, none⟩ (.bool z.s.has) = W3 at H3 hrow3 ⊢
  simp only [List.setIfInBounds_toArray, List.set_cons_zero, List.set_cons_succ] at H3
  have hseg := segments_any W3 (w.heap.size + 1) B.length ad2 cap2 (six_cells H3.r1).1 hhB
  go_wp2_with (go_at_call 97; refine hseg.mono ?_; clear hseg; rintro e W3 ⟨rfl, rfl⟩; dsimp only)
  go_loopw [23] (fun i wr => ∃ m : Nat, i = .int .i64 m ∧ m ≤ B.length + 1 ∧ Hid (SpW (fun _ => False) w wr b T (.slice (some ⟨g, 0, none⟩) S.length cap) S z zRow #[.slice ad2 B.length cap2, .pointer z.p, .int .i64 z.s.l.length, .pointer z.s.tag, .bool z.s.has, .int .i64 (cntN ((B ++ [z]).take m) : Nat)]) ∧ Hid (wr.ownsRow 0 97 4 (.slice ad2 B.length cap2) B.length (B.flatMap Sn.cells))) (fun i _ => (B.length + 1) - (intOf i).toNat)
  case atStart => exact ⟨0, rfl, by omega, H3, hrow3⟩
  case round =>
    obtain ⟨m, rfl, hm, H4, hrow4⟩ := hrel
    by_cases e : m = B.length + 1
    · subst e
      have H5 := H4.out
      rw [List.take_of_length_le (by simp)] at H5
      have hgl : g < w.heap.size := ownsRow_lt hrow rfl
      have hrowS : wr.ownsRow 0 97 4 (.slice (some ⟨g, 0, none⟩) S.length cap) S.length (S.flatMap Sn.cells) := ownsRow_keep hrow (fun k hk => H5.ch.same k (ownsRow_lt hrow hk) (fun h => h))
      have x0 : wr.cell? ⟨g, n * 4, none⟩ = some (.pointer x.p) := row_cell hrowS _ _ ((flat_get S n 0 x hx (by decide)).trans rfl)
      have x1 : wr.cell? ⟨g, n * 4 + 1, none⟩ = some (.int .i64 x.s.l.length) := row_cell hrowS _ _ ((flat_get S n 1 x hx (by decide)).trans rfl)
      have x2 : wr.cell? ⟨g, n * 4 + 2, none⟩ = some (.pointer x.s.tag) := row_cell hrowS _ _ ((flat_get S n 2 x hx (by decide)).trans rfl)
      have x3 : wr.cell? ⟨g, n * 4 + 3, none⟩ = some (.bool x.s.has) := row_cell hrowS _ _ ((flat_get S n 3 x hx (by decide)).trans rfl)
      obtain ⟨a0, a1, a2, a3, a4, a5, af⟩ := row_cells H5.blk
      obtain ⟨r0, r1, r2, r3, r4, r5, rf⟩ := six_cells H5.r0
      obtain ⟨p0, p1, p2, p3, p4, p5, pf⟩ := six_cells H5.r1
      have hw1 : IntKind.i64.wrap ((n : Int) + 1 - 1) = (n : Int) := by rw [IntWalk.i64_in _ (by omega)]; omega
      have hw2 : IntKind.i64.wrap (n : Int) = (n : Int) := IntWalk.i64_in _ (by omega)
      have hi0 : (0 : Int) ≤ (n : Int) := by omega
      have hi1 : (n : Int) < (S.length : Int) := by omega
      have H7 := (((H5.set0 hbl 1 (.pointer x.p)).set0 hbl 2 (.int .i64 x.s.l.length)).set0 hbl 3 (.pointer x.s.tag)).set0 hbl 4 (.bool x.s.has)
      have hcx : ∀ (k : Nat), k ≠ w.heap.size → ((((wr.setCell ⟨w.heap.size, 1, none⟩ (.pointer x.p)).setCell ⟨w.heap.size, 2, none⟩ (.int .i64 x.s.l.length)).setCell ⟨w.heap.size, 3, none⟩ (.pointer x.s.tag)).setCell ⟨w.heap.size, 4, none⟩ (.bool x.s.has)).heap[k]? = wr.heap[k]? := fun k hne => by
        rw [Below.heap_setCell _ _ _ k (by exact hne), Below.heap_setCell _ _ _ k (by exact hne), Below.heap_setCell _ _ _ k (by exact hne), Below.heap_setCell _ _ _ k (by exact hne)]
      have hrow7 := ownsRow_keep hrow4.out (fun k hk => hcx k (fun e => hv3.1 (by rw [hk, e])))
      have hrowT := ownsRow_keep hrowS (fun k hk => hcx k (fun e => by have e2 : some g = some k := hk; cases e2; omega))
      clear H4 hrow4 hrow3 H3
      go_upto_region 9 with (fail)
      clear a0 a1 a2 a3 a4 a5 af r0 r1 r2 r3 r4 r5 rf p0 p1 p2 p3 p4 p5 pf hcx hrowS x0 x1 x2 x3 H5
      generalize (((wr.setCell ⟨w.heap.size, 1, none⟩ (.pointer x.p)).setCell ⟨w.heap.size, 2, none⟩ (.int .i64 x.s.l.length)).setCell ⟨w.heap.size, 3, none⟩ (.pointer x.s.tag)).setCell ⟨w.heap.size, 4, none⟩ (.bool x.s.has) = W5 at H7 hrow7 hrowT ⊢
      simp only [zRow, List.setIfInBounds_toArray, List.set_cons_zero, List.set_cons_succ] at H7
      obtain ⟨a0, a1, a2, a3, a4, a5, af⟩ := row_cells H7.blk
      obtain ⟨r0, r1, r2, r3, r4, r5, rf⟩ := six_cells H7.r0
      have hdel := delete_any W5.drew g S.length cap n (S.flatMap Sn.cells) hrowT hn (by omega)
      refine wp_region_held_drew (S := (fun w' => w'.cell? ⟨b, 0, none⟩ = some (.slice (some ⟨g, 0, none⟩) S.length cap))) (by kernel_rfl) (by first | trivial | ((try dsimp only); go_keep)) (fun hHeld => ?_)
      refine wpAnyH_take (i := 0) (v := ?vvd21) rfl (by kernel_rfl) (by kernel_rfl) (by kernel_rfl) (fun _ _ _ h => h) (Or.inl ⟨by rfl, ?yyd21⟩) (by assumption) ?rrd21
      case yyd21 => (intro w' hSw; (try dsimp only at hSw); go_simp; (try with_reducible rfl))
      try simp only [Act.put, List.setIfInBounds_toArray, List.set_cons_zero, List.set_cons_succ]
      refine wpAnyH_take (i := 1) (v := ?vvd22) rfl (by kernel_rfl) (by kernel_rfl) (by kernel_rfl) (fun _ _ _ h => h) (Or.inl ⟨by rfl, ?yyd22⟩) (by assumption) ?rrd22
      case yyd22 => (intro w' hSw; (try dsimp only at hSw); go_simp; (try with_reducible rfl))
      try simp only [Act.put, List.setIfInBounds_toArray, List.set_cons_zero, List.set_cons_succ]
      refine wpAnyH_take (i := 2) (v := ?vvd23) rfl (by kernel_rfl) (by kernel_rfl) (by kernel_rfl) (fun _ _ _ h => h) (Or.inl ⟨by rfl, ?yyd23⟩) (by assumption) ?rrd23
      case yyd23 => (intro w' hSw; (try dsimp only at hSw); go_simp; (try with_reducible rfl))
      try simp only [Act.put, List.setIfInBounds_toArray, List.set_cons_zero, List.set_cons_succ]
      refine wpAnyH_take (i := 3) (v := ?vvd24) rfl (by kernel_rfl) (by kernel_rfl) (by kernel_rfl) (fun _ _ _ h => h) (Or.inl ⟨by rfl, ?yyd24⟩) (by assumption) ?rrd24
      case yyd24 => (intro w' hSw; (try dsimp only at hSw); go_simp; (try with_reducible rfl))
      try simp only [Act.put, List.setIfInBounds_toArray, List.set_cons_zero, List.set_cons_succ]
      refine wpAnyH_take (i := 4) (v := ?vvd25) rfl (by kernel_rfl) (by kernel_rfl) (by kernel_rfl) (fun _ _ _ h => h) (Or.inl ⟨by rfl, ?yyd25⟩) (by assumption) ?rrd25
      case yyd25 => (intro w' hSw; (try dsimp only at hSw); go_simp; (try with_reducible rfl))
      try simp only [Act.put, List.setIfInBounds_toArray, List.set_cons_zero, List.set_cons_succ]
      refine wpAnyH_take (i := 5) (v := ?vvd26) rfl (by kernel_rfl) (by kernel_rfl) (by kernel_rfl) (fun _ _ _ h => h) (Or.inl ⟨by rfl, ?yyd26⟩) (by assumption) ?rrd26
      case yyd26 => (intro w' hSw; (try dsimp only at hSw); go_simp; (try with_reducible rfl))
      try simp only [Act.put, List.setIfInBounds_toArray, List.set_cons_zero, List.set_cons_succ]
      refine wpAnyH_take (i := 6) (v := ?vvd27) rfl (by kernel_rfl) (by kernel_rfl) (by kernel_rfl) (fun _ _ _ h => h) (Or.inl ⟨by rfl, ?yyd27⟩) (by assumption) ?rrd27
      case yyd27 => (intro w' hSw; (try dsimp only at hSw); go_simp; (try with_reducible rfl))
      try simp only [Act.put, List.setIfInBounds_toArray, List.set_cons_zero, List.set_cons_succ]
      refine wpAnyH_take (i := 7) (v := ?vvd28) rfl (by kernel_rfl) (by kernel_rfl) (by kernel_rfl) (fun _ _ _ h => h) (Or.inl ⟨by rfl, ?yyd28⟩) (by assumption) ?rrd28
      case yyd28 => (intro w' hSw; (try dsimp only at hSw); go_simp; (try with_reducible rfl))
      try simp only [Act.put, List.setIfInBounds_toArray, List.set_cons_zero, List.set_cons_succ]
      refine wpAnyH_take (i := 8) (v := ?vvd29) rfl (by kernel_rfl) (by kernel_rfl) (by kernel_rfl) (fun _ _ _ h => h) (Or.inl ⟨by rfl, ?yyd29⟩) (by assumption) ?rrd29
      case yyd29 => (intro w' hSw; (try dsimp only at hSw); go_simp; (try with_reducible rfl))
      try simp only [Act.put, List.setIfInBounds_toArray, List.set_cons_zero, List.set_cons_succ]
      refine wpAnyH_take (i := 9) (v := ?vvd30) rfl (by kernel_rfl) (by kernel_rfl) (by kernel_rfl) (fun _ _ _ h => h) (Or.inl ⟨by rfl, ?yyd30⟩) (by assumption) ?rrd30
      case yyd30 => (intro w' hSw; (try dsimp only at hSw); go_simp; (try with_reducible rfl))
      try simp only [Act.put, List.setIfInBounds_toArray, List.set_cons_zero, List.set_cons_succ]
      refine wpAnyH_take (i := 10) (v := ?vvd31) rfl (by kernel_rfl) (by kernel_rfl) (by kernel_rfl) (fun _ _ _ h => h) (Or.inl ⟨by rfl, ?yyd31⟩) (by assumption) ?rrd31
      case yyd31 => (intro w' hSw; (try dsimp only at hSw); go_simp; (try with_reducible rfl))
      try simp only [Act.put, List.setIfInBounds_toArray, List.set_cons_zero, List.set_cons_succ]
      refine wpAnyH_ready (rs := [11]) (by kernel_rfl) (by simp) (AllReadyH.cons rfl (fun K hK => ?_) AllReadyH.nil)
      go_simp
      refine hdel.mono ?_
      clear hdel
      rintro e W6 ⟨rfl, hrow8, hc8⟩
      have H8 := H7.drew.del hc8 (fun k h => h.elim) hgb hgl
      clear a0 a1 a2 a3 a4 a5 af r0 r1 r2 r3 r4 r5 rf
      obtain ⟨a0, a1, a2, a3, a4, a5, af⟩ := row_cells H8.blk
      obtain ⟨r0, r1, r2, r3, r4, r5, rf⟩ := six_cells H8.r0
      dsimp only
      clear hHeld
      refine hK.out _ _ ?hs (fun hHeld => ?_)
      case hs => (first | trivial | ((try dsimp only); go_keep) | ((try dsimp only); simp [*, World.cell?_alloc_some, World.cell?_setCell_far, World.cell?_setCell_other]))
      clear hK K
      try simp only [Act.put, List.setIfInBounds_toArray, List.set_cons_zero, List.set_cons_succ]
      refine wpAnyH_take (i := 12) (v := ?vvd32) rfl (by kernel_rfl) (by kernel_rfl) (by kernel_rfl) (fun _ _ _ h => h) (Or.inl ⟨by rfl, ?yyd32⟩) (by assumption) ?rrd32
      case yyd32 => (intro w' hSw; (try dsimp only at hSw); go_simp; (try with_reducible rfl))
      try simp only [Act.put, List.setIfInBounds_toArray, List.set_cons_zero, List.set_cons_succ]
      refine wpAnyH_ready (rs := [13]) (by kernel_rfl) (by simp) (AllReadyH.cons rfl (fun K hK => ?_) AllReadyH.nil)
      go_simp
      clear hHeld
      refine hK.out _ _ ?hs (fun hHeld => ?_)
      case hs => (first | trivial | ((try dsimp only); go_keep) | ((try dsimp only); simp [*, World.cell?_alloc_some, World.cell?_setCell_far, World.cell?_setCell_other]))
      clear hK K
      try simp only [Act.put, List.setIfInBounds_toArray, List.set_cons_zero, List.set_cons_succ]
      refine wpAnyH_done (by kernel_rfl) ?_ _
      clear hHeld
      have H9 := H8.set0 hbl 0 (.slice (some ⟨g, 0, none⟩) n cap)
      have hg2 : (Value.slice ad2 B.length cap2).ownBlock ≠ some g := fun e => by have := hv2 g e; omega
      have hrowA := ownsRow_keep (w' := W6.setCell ⟨w.heap.size, 0, none⟩ (.slice (some ⟨g, 0, none⟩) n cap)) hrow8 (fun k hk => Below.heap_setCell _ _ _ k (by cases hk; simp; omega))
      have hrowB := ownsRow_keep (w' := W6.setCell ⟨w.heap.size, 0, none⟩ (.slice (some ⟨g, 0, none⟩) n cap)) hrow7 (fun k hk => (Below.heap_setCell _ _ _ k (fun e => hv3.1 (by rw [hk, e]))).trans (hc8.same k (ownsRow_lt hrow7 hk) (fun e => hg2 (by rw [hk, e]))))
      clear a0 a1 a2 a3 a4 a5 af r0 r1 r2 r3 r4 r5 rf H8 hrow8 hrow7 hrowT H7 hc8
      generalize W6.setCell ⟨w.heap.size, 0, none⟩ (.slice (some ⟨g, 0, none⟩) n cap) = W7 at H9 hrowA hrowB ⊢
      simp only [List.setIfInBounds_toArray, List.set_cons_zero, List.set_cons_succ] at H9
      obtain ⟨a0, a1, a2, a3, a4, a5, af⟩ := row_cells H9.blk
      obtain ⟨r0, r1, r2, r3, r4, r5, rf⟩ := six_cells H9.r0
      obtain ⟨p0, p1, p2, p3, p4, p5, pf⟩ := six_cells H9.r1
      obtain ⟨t1, t2, t3⟩ := take_at hx
      have hcnt : cntN (S ++ [z]) = cntN (S.take n ++ [x]) + cntN (B ++ [z]) := by
        conv => lhs; rw [t1]
        rw [hB.out]
        simp only [cntN_append, cntN_one, List.append_assoc, List.cons_append]
        rw [show x :: (B ++ [z]) = [x] ++ (B ++ [z]) from rfl, cntN_append, cntN_one, cntN_append, cntN_one]
        omega
      have htk : (S.flatMap Sn.cells).take (n * 4) = (S.take n).flatMap Sn.cells := by
        conv => lhs; rw [← List.take_append_drop n S, List.flatMap_append]
        rw [List.take_append_of_le_length (by rw [flat_len]; simp; omega), List.take_of_length_le (by rw [flat_len]; simp; omega)]
      rw [htk] at hrowA
      clear t1 t2 t3 htk
      obtain ⟨N1, hN1⟩ : ∃ N1, cntN (S ++ [z]) = N1 := ⟨_, rfl⟩
      obtain ⟨N2, hN2⟩ : ∃ N2, cntN (B ++ [z]) = N2 := ⟨_, rfl⟩
      obtain ⟨N3, hN3⟩ : ∃ N3, cntN (S.take n ++ [x]) = N3 := ⟨_, rfl⟩
      rw [hN1, hN2, hN3] at hcnt
      rw [hN1] at a5 hcn
      rw [hN2] at p5 H9
      have hW : IntKind.i64.wrap ((N1 : Int) - (N2 : Int)) = (N3 : Int) := by rw [IntWalk.i64_in _ (by omega)]; omega
      replace hcnt := hid hcnt
      replace hN1 := hid hN1
      replace hN2 := hid hN2
      replace hN3 := hid hN3
      have hne1 : w.heap.size ≠ b := by omega
      have hne2 : b ≠ w.heap.size := by omega
      go_upto_region 10 with (fail)
      refine wp_region_held_drew (S := (fun w' => w'.cell? ⟨b, 5, none⟩ = some (.int .i64 (N1 : Int)) ∧ w'.cell? ⟨w.heap.size + 1, 5, none⟩ = some (.int .i64 (N2 : Int)))) (by kernel_rfl) (by first | trivial | ((try dsimp only); go_keep)) (fun hHeld => ?_)
      refine wpAnyH_take (i := 0) (v := ?vve33) rfl (by kernel_rfl) (by kernel_rfl) (by kernel_rfl) (fun _ _ _ h => h) (Or.inl ⟨by rfl, ?yye33⟩) (by assumption) ?rre33
      case yye33 => (intro w' hSw; (try dsimp only at hSw); go_simp; (try with_reducible rfl))
      try simp only [Act.put, List.setIfInBounds_toArray, List.set_cons_zero, List.set_cons_succ]
      refine wpAnyH_take (i := 1) (v := ?vve34) rfl (by kernel_rfl) (by kernel_rfl) (by kernel_rfl) (fun _ _ _ h => h) (Or.inl ⟨by rfl, ?yye34⟩) (by assumption) ?rre34
      case yye34 => (intro w' hSw; (try dsimp only at hSw); go_simp; (try with_reducible rfl))
      try simp only [Act.put, List.setIfInBounds_toArray, List.set_cons_zero, List.set_cons_succ]
      refine wpAnyH_take (i := 2) (v := ?vve35) rfl (by kernel_rfl) (by kernel_rfl) (by kernel_rfl) (fun _ _ _ h => h) (Or.inl ⟨by rfl, ?yye35⟩) (by assumption) ?rre35
      case yye35 => (intro w' hSw; (try dsimp only at hSw); go_simp; (try with_reducible rfl))
      try simp only [Act.put, List.setIfInBounds_toArray, List.set_cons_zero, List.set_cons_succ]
      refine wpAnyH_take (i := 3) (v := ?vve36) rfl (by kernel_rfl) (by kernel_rfl) (by kernel_rfl) (fun _ _ _ h => h) (Or.inl ⟨by rfl, ?yye36⟩) (by assumption) ?rre36
      case yye36 => (intro w' hSw; (try dsimp only at hSw); go_simp; (try with_reducible rfl))
      try simp only [Act.put, List.setIfInBounds_toArray, List.set_cons_zero, List.set_cons_succ]
      refine wpAnyH_take (i := 4) (v := ?vve37) rfl (by kernel_rfl) (by kernel_rfl) (by kernel_rfl) (fun _ _ _ h => h) (Or.inl ⟨by rfl, ?yye37⟩) (by assumption) ?rre37
      case yye37 => (intro w' hSw; (try dsimp only at hSw); go_simp; (try with_reducible rfl))
      try simp only [Act.put, List.setIfInBounds_toArray, List.set_cons_zero, List.set_cons_succ]
      refine wpAnyH_take (i := 5) (v := ?vve38) rfl (by kernel_rfl) (by kernel_rfl) (by kernel_rfl) (fun _ _ _ h => h) (Or.inl ⟨by rfl, ?yye38⟩) (by assumption) ?rre38
      case yye38 => (intro w' hSw; (try dsimp only at hSw); go_simp; (try with_reducible rfl))
      try simp only [Act.put, List.setIfInBounds_toArray, List.set_cons_zero, List.set_cons_succ]
      refine wpAnyH_take (i := 6) (v := ?vve39) rfl (by kernel_rfl) (by kernel_rfl) (by kernel_rfl) (fun _ _ _ h => h) (Or.inl ⟨by rfl, ?yye39⟩) (by assumption) ?rre39
      case yye39 => (intro w' hSw; (try dsimp only at hSw); go_simp; (try with_reducible rfl))
      try simp only [Act.put, List.setIfInBounds_toArray, List.set_cons_zero, List.set_cons_succ]
      refine wpAnyH_take (i := 7) (v := ?vve40) rfl (by kernel_rfl) (by kernel_rfl) (by kernel_rfl) (fun _ _ _ h => h) (Or.inl ⟨by rfl, ?yye40⟩) (by assumption) ?rre40
      case yye40 => (intro w' hSw; (try dsimp only at hSw); go_simp; (try with_reducible rfl))
      try simp only [Act.put, List.setIfInBounds_toArray, List.set_cons_zero, List.set_cons_succ]
      refine wpAnyH_ready (rs := [8]) (by kernel_rfl) (by simp) (AllReadyH.cons rfl (fun K hK => ?_) AllReadyH.nil)
      go_simp
      clear hHeld
      refine hK.out _ _ ?hs (fun hHeld => ?_)
      case hs => (first | trivial | ((try dsimp only); go_keep) | ((try dsimp only); simp [*, World.cell?_alloc_some, World.cell?_setCell_far, World.cell?_setCell_other]))
      clear hK K
      try simp only [Act.put, List.setIfInBounds_toArray, List.set_cons_zero, List.set_cons_succ]
      refine wpAnyH_done (by kernel_rfl) ?_ _
      clear hHeld
      have HA := (H9.set0 hbl 5 (.int .i64 (N3 : Int))).drew
      have hrowC := ownsRow_keep (w' := (W7.setCell ⟨w.heap.size, 5, none⟩ (.int .i64 (N3 : Int))).drew) hrowA (fun k hk => Below.heap_setCell _ _ _ k (by cases hk; simp; omega))
      have hrowD := ownsRow_keep (w' := (W7.setCell ⟨w.heap.size, 5, none⟩ (.int .i64 (N3 : Int))).drew) hrowB (fun k hk => Below.heap_setCell _ _ _ k (fun e => hv3.1 (by rw [hk, e])))
      clear a0 a1 a2 a3 a4 a5 af r0 r1 r2 r3 r4 r5 rf p0 p1 p2 p3 p4 p5 pf H9 hrowA hrowB
      generalize (W7.setCell ⟨w.heap.size, 5, none⟩ (.int .i64 (N3 : Int))).drew = W8 at HA hrowC hrowD ⊢
      simp only [List.setIfInBounds_toArray, List.set_cons_zero, List.set_cons_succ] at HA
      obtain ⟨r0, r1, r2, r3, r4, r5, rf⟩ := six_cells HA.r0
      obtain ⟨p0, p1, p2, p3, p4, p5, pf⟩ := six_cells HA.r1
      go_wp2
      go_region
      have HC := ((((((((((((HA.set0 hbl 0 (.slice (some ⟨g, 0, none⟩) n cap)).set0 hbl 1 (.pointer x.p)).set0 hbl 2 (.int .i64 x.s.l.length)).set0 hbl 3 (.pointer x.s.tag)).set0 hbl 4 (.bool x.s.has)).set0 hbl 5 (.int .i64 (N3 : Int))).set1 hbl 0 (.slice ad2 B.length cap2)).set1 hbl 1 (.pointer z.p)).set1 hbl 2 (.int .i64 z.s.l.length)).set1 hbl 3 (.pointer z.s.tag)).set1 hbl 4 (.bool z.s.has)).set1 hbl 5 (.int .i64 (N2 : Int))).drew
      simp only [List.setIfInBounds_toArray, List.set_cons_zero, List.set_cons_succ] at HC
      have hoth : ∀ k, k ≠ w.heap.size → k ≠ w.heap.size + 1 → ((((((((((((W8.setCell ⟨w.heap.size, 0, none⟩ (.slice (some ⟨g, 0, none⟩) n cap)).setCell ⟨w.heap.size, 1, none⟩ (.pointer x.p)).setCell ⟨w.heap.size, 2, none⟩ (.int .i64 x.s.l.length)).setCell ⟨w.heap.size, 3, none⟩ (.pointer x.s.tag)).setCell ⟨w.heap.size, 4, none⟩ (.bool x.s.has)).setCell ⟨w.heap.size, 5, none⟩ (.int .i64 (N3 : Int))).setCell ⟨w.heap.size + 1, 0, none⟩ (.slice ad2 B.length cap2)).setCell ⟨w.heap.size + 1, 1, none⟩ (.pointer z.p)).setCell ⟨w.heap.size + 1, 2, none⟩ (.int .i64 z.s.l.length)).setCell ⟨w.heap.size + 1, 3, none⟩ (.pointer z.s.tag)).setCell ⟨w.heap.size + 1, 4, none⟩ (.bool z.s.has)).setCell ⟨w.heap.size + 1, 5, none⟩ (.int .i64 (N2 : Int))).drew.heap[k]? = W8.heap[k]? := fun k h1 h2 => by
        rw [blk_drS, Below.heap_setCell _ _ _ k (by exact h2), Below.heap_setCell _ _ _ k (by exact h2), Below.heap_setCell _ _ _ k (by exact h2), Below.heap_setCell _ _ _ k (by exact h2), Below.heap_setCell _ _ _ k (by exact h2), Below.heap_setCell _ _ _ k (by exact h2), Below.heap_setCell _ _ _ k (by exact h1), Below.heap_setCell _ _ _ k (by exact h1), Below.heap_setCell _ _ _ k (by exact h1), Below.heap_setCell _ _ _ k (by exact h1), Below.heap_setCell _ _ _ k (by exact h1), Below.heap_setCell _ _ _ k (by exact h1)]
      have hrowE := ownsRow_keep hrowC (fun k hk => hoth k (fun e => by have e2 : some g = some k := hk; cases e2; omega) (fun e => by have e2 : some g = some k := hk; cases e2; omega))
      have hrowF := ownsRow_keep hrowD (fun k hk => hoth k (fun e => hv3.1 (by rw [hk, e])) (fun e => hv3.2 (by rw [hk, e])))
      clear hoth r0 r1 r2 r3 r4 r5 rf p0 p1 p2 p3 p4 p5 pf HA hrowC hrowD
      generalize ((((((((((((W8.setCell ⟨w.heap.size, 0, none⟩ (.slice (some ⟨g, 0, none⟩) n cap)).setCell ⟨w.heap.size, 1, none⟩ (.pointer x.p)).setCell ⟨w.heap.size, 2, none⟩ (.int .i64 x.s.l.length)).setCell ⟨w.heap.size, 3, none⟩ (.pointer x.s.tag)).setCell ⟨w.heap.size, 4, none⟩ (.bool x.s.has)).setCell ⟨w.heap.size, 5, none⟩ (.int .i64 (N3 : Int))).setCell ⟨w.heap.size + 1, 0, none⟩ (.slice ad2 B.length cap2)).setCell ⟨w.heap.size + 1, 1, none⟩ (.pointer z.p)).setCell ⟨w.heap.size + 1, 2, none⟩ (.int .i64 z.s.l.length)).setCell ⟨w.heap.size + 1, 3, none⟩ (.pointer z.s.tag)).setCell ⟨w.heap.size + 1, 4, none⟩ (.bool z.s.has)).setCell ⟨w.heap.size + 1, 5, none⟩ (.int .i64 (N2 : Int))).drew = W9 at HC hrowE hrowF ⊢
      obtain ⟨r0, r1, r2, r3, r4, r5, rf⟩ := six_cells HC.r0
      obtain ⟨p0, p1, p2, p3, p4, p5, pf⟩ := six_cells HC.r1
      go_wp2
      refine bodyPost_ret (v := .tuple #[.agg (rowCells (.slice (some ⟨g, 0, none⟩) n cap) (S.take n) x), .agg (rowCells (.slice ad2 B.length cap2) B z)]) ?_ rfl ?_
      · simp [results, Tryz.results65, go_sem, rowCells, hN2.out, hN3.out, r0, r1, r2, r3, r4, r5, p0, p1, p2, p3, p4, p5]
      · refine ⟨.slice ad2 B.length cap2, by rw [hB.out], hrowE, by rw [hB.out]; exact hrowF, hv2, HC.ch⟩
    · have hlt : m < B.length + 1 := by omega
      have H5 := H4.out
      obtain ⟨p0, p1, p2, p3, p4, p5, pf⟩ := six_cells H5.r1
      obtain ⟨xm, hxm⟩ : ∃ xm, (B ++ [z])[m]? = some xm := ⟨(B ++ [z])[m]'(by simp; omega), by simp⟩
      obtain ⟨t1, t2, t3⟩ := take_at hxm
      have hcm : cntN ((B ++ [z]).take (m + 1)) = cntN ((B ++ [z]).take m) + xm.s.l.length := by rw [t2, cntN_append, cntN_one]
      have hcle : cntN ((B ++ [z]).take (m + 1)) < 1000000000 := by
        have h1 := cntN_le_take (B ++ [z]) (m + 1)
        have h2 := cntN_drop S (n + 1)
        rw [hB.out] at h2
        rw [cntN_append] at hcn h1
        omega
      obtain ⟨c, o, hat, hcs, hks⟩ : ∃ c o, (Calls Tryz.prog 66 #[.pointer (some ⟨w.heap.size + 1, 0, none⟩), .int .i64 m] wr.drew fun e w' => e = .returned (.pointer (some ⟨c, o, none⟩)) ∧ w' = wr.drew) ∧ wr.cell? ⟨c, o + 1, none⟩ = some (.int .i64 xm.s.l.length) ∧
          ∀ (W : World) (u : Value), (W.setCell ⟨w.heap.size + 1, 5, none⟩ u).cell? ⟨c, o + 1, none⟩ = W.cell? ⟨c, o + 1, none⟩ := by
        by_cases em : m = B.length
        · subst em
          obtain rfl : z = xm := by simpa using hxm
          exact ⟨w.heap.size + 1, 1, at_inner wr.drew (w.heap.size + 1) B.length ad2 cap2 p0, p2, fun W u => World.cell?_setCell_other _ _ _ _ (by simp)⟩
        · have hmB : m < B.length := by omega
          obtain ⟨g2, rfl⟩ : ∃ g2, ad2 = some ⟨g2, 0, none⟩ := by rcases ha2 with h | ⟨g2, h⟩; omega; exact ⟨g2, h⟩
          have hxm2 : B[m]? = some xm := by rwa [List.getElem?_append_left hmB] at hxm
          refine ⟨g2, m * 4, at_outer wr.drew (w.heap.size + 1) B.length m g2 cap2 p0 hmB, row_cell hrow4.out _ _ ((flat_get B m 1 xm hxm2 (by decide)).trans rfl), fun W u => World.cell?_setCell_other _ _ _ _ (by
            intro e9
            have e8 := congrArg Addr.block e9
            exact hv3.2 (by rw [show w.heap.size + 1 = g2 from e8]; rfl))⟩
      obtain ⟨N, hN⟩ : ∃ N, cntN ((B ++ [z]).take m) = N := ⟨_, rfl⟩
      rw [hN] at p5 hcm
      have hW : IntKind.i64.wrap ((N : Int) + (xm.s.l.length : Int)) = ((N + xm.s.l.length : Nat) : Int) := by rw [IntWalk.i64_in _ (by omega)]; omega
      have hw1 : IntKind.i64.wrap ((m : Int) + 1) = ((m + 1 : Nat) : Int) := by rw [IntWalk.i64_in _ (by omega)]; omega
      have hcond : (m : Int) < (B.length : Int) + 1 := by omega
      have H6 : Hid (SpW (fun _ => False) w (wr.setCell ⟨w.heap.size + 1, 5, none⟩ (.int .i64 ((N : Int) + (xm.s.l.length : Int)))).drew b T (.slice (some ⟨g, 0, none⟩) S.length cap) S z zRow #[.slice ad2 B.length cap2, .pointer z.p, .int .i64 z.s.l.length, .pointer z.s.tag, .bool z.s.has, .int .i64 (cntN ((B ++ [z]).take (m + 1)) : Nat)]) := by
        have := (H5.set1 hbl 5 (.int .i64 ((N : Int) + (xm.s.l.length : Int)))).drew
        rw [hcm]
        exact hid (by simpa using this)
      have hrow6 : Hid ((wr.setCell ⟨w.heap.size + 1, 5, none⟩ (.int .i64 ((N : Int) + (xm.s.l.length : Int)))).drew.ownsRow 0 97 4 (.slice ad2 B.length cap2) B.length (B.flatMap Sn.cells)) :=
        ownsRow_keep hrow4.out (fun k hk => Below.heap_setCell _ _ _ k (fun e => hv3.2 (by rw [hk, e])))
      clear t1 t2 t3 hcm hcle hxm H5 H4 hrow4 hN
      go_upto_region 6 with (fail)
      refine wp_region_held_drew (S := (fun w' => w'.cell? ⟨c, o + 1, none⟩ = some (.int .i64 xm.s.l.length))) (by kernel_rfl) (by first | trivial | ((try dsimp only); go_keep)) (fun hHeld => ?_)
      refine wpAnyH_take (i := 0) (v := ?vvc9) rfl (by kernel_rfl) (by kernel_rfl) (by kernel_rfl) (fun _ _ _ h => h) (Or.inl ⟨by rfl, ?yyc9⟩) (by assumption) ?rrc9
      case yyc9 => (intro w' hSw; (try dsimp only at hSw); go_simp; (try with_reducible rfl))
      try simp only [Act.put, List.setIfInBounds_toArray, List.set_cons_zero, List.set_cons_succ]
      refine wpAnyH_take (i := 2) (v := ?vvc10) rfl (by kernel_rfl) (by kernel_rfl) (by kernel_rfl) (fun _ _ _ h => h) (Or.inl ⟨by rfl, ?yyc10⟩) (by assumption) ?rrc10
      case yyc10 => (intro w' hSw; (try dsimp only at hSw); go_simp; (try with_reducible rfl))
      try simp only [Act.put, List.setIfInBounds_toArray, List.set_cons_zero, List.set_cons_succ]
      refine wpAnyH_ready (rs := [1, 3]) (by kernel_rfl) (by simp) (AllReadyH.cons rfl (fun K hK => ?_) (AllReadyH.cons rfl (fun K hK => ?_) AllReadyH.nil))
      · go_simp
        clear hHeld
        refine hK.out _ _ ?hs (fun hHeld => ?_)
        case hs => (first | trivial | ((try dsimp only); go_keep) | ((try dsimp only); simp [*, World.cell?_alloc_some, World.cell?_setCell_far, World.cell?_setCell_other]))
        clear hK K
        try simp only [Act.put, List.setIfInBounds_toArray, List.set_cons_zero, List.set_cons_succ]
        refine wpAnyH_ready (rs := [3]) (by kernel_rfl) (by simp) (AllReadyH.cons rfl (fun K hK => ?_) AllReadyH.nil)
        go_simp
        refine hat.mono ?_
        clear hat
        rintro e w9 ⟨rfl, rfl⟩
        dsimp only
        clear hHeld
        refine hK.out _ _ ?hs (fun hHeld => ?_)
        case hs => (first | trivial | ((try dsimp only); go_keep) | ((try dsimp only); simp [*, World.cell?_alloc_some, World.cell?_setCell_far, World.cell?_setCell_other]))
        clear hK K
        try simp only [Act.put, List.setIfInBounds_toArray, List.set_cons_zero, List.set_cons_succ]
        refine wpAnyH_take (i := 4) (v := ?vvc11) rfl (by kernel_rfl) (by kernel_rfl) (by kernel_rfl) (fun _ _ _ h => h) (Or.inl ⟨by rfl, ?yyc11⟩) (by assumption) ?rrc11
        case yyc11 => (intro w' hSw; (try dsimp only at hSw); go_simp; (try with_reducible rfl))
        try simp only [Act.put, List.setIfInBounds_toArray, List.set_cons_zero, List.set_cons_succ]
        refine wpAnyH_take (i := 5) (v := ?vvc12) rfl (by kernel_rfl) (by kernel_rfl) (by kernel_rfl) (fun _ _ _ h => h) (Or.inl ⟨by rfl, ?yyc12⟩) (by assumption) ?rrc12
        case yyc12 => (intro w' hSw; (try dsimp only at hSw); go_simp; (try with_reducible rfl))
        try simp only [Act.put, List.setIfInBounds_toArray, List.set_cons_zero, List.set_cons_succ]
        refine wpAnyH_take (i := 6) (v := ?vvc13) rfl (by kernel_rfl) (by kernel_rfl) (by kernel_rfl) (fun _ _ _ h => h) (Or.inl ⟨by rfl, ?yyc13⟩) (by assumption) ?rrc13
        case yyc13 => (intro w' hSw; (try dsimp only at hSw); go_simp; (try with_reducible rfl))
        try simp only [Act.put, List.setIfInBounds_toArray, List.set_cons_zero, List.set_cons_succ]
        refine wpAnyH_take (i := 7) (v := ?vvc14) rfl (by kernel_rfl) (by kernel_rfl) (by kernel_rfl) (fun _ _ _ h => h) (Or.inl ⟨by rfl, ?yyc14⟩) (by assumption) ?rrc14
        case yyc14 => (intro w' hSw; (try dsimp only at hSw); go_simp; (try with_reducible rfl))
        try simp only [Act.put, List.setIfInBounds_toArray, List.set_cons_zero, List.set_cons_succ]
        refine wpAnyH_take (i := 8) (v := ?vvc15) rfl (by kernel_rfl) (by kernel_rfl) (by kernel_rfl) (fun _ _ _ h => h) (Or.inl ⟨by rfl, ?yyc15⟩) (by assumption) ?rrc15
        case yyc15 => (intro w' hSw; (try dsimp only at hSw); go_simp; (try with_reducible rfl))
        try simp only [Act.put, List.setIfInBounds_toArray, List.set_cons_zero, List.set_cons_succ]
        refine wpAnyH_ready (rs := [9]) (by kernel_rfl) (by simp) (AllReadyH.cons rfl (fun K hK => ?_) AllReadyH.nil)
        go_simp
        clear hHeld
        refine hK.out _ _ ?hs (fun hHeld => ?_)
        case hs => (first | trivial | ((try dsimp only); go_keep) | ((try dsimp only); simp [*, World.cell?_alloc_some, World.cell?_setCell_far, World.cell?_setCell_other]))
        clear hK K
        try simp only [Act.put, List.setIfInBounds_toArray, List.set_cons_zero, List.set_cons_succ]
        refine wpAnyH_done (by kernel_rfl) ?_ _
        clear hHeld
        go_wp2
        go_roundw
        case rel => exact ⟨_, _, _, _, _, _, _, _, _, _, _, _, _, _, ⟨m + 1, by simp, by omega, H6, hrow6⟩, rfl⟩
        case measure => simp [intOf]; omega
      · go_simp
        refine hat.mono ?_
        clear hat
        rintro e w9 ⟨rfl, rfl⟩
        dsimp only
        clear hHeld
        refine hK.out _ _ ?hs (fun hHeld => ?_)
        case hs => (first | trivial | ((try dsimp only); go_keep) | ((try dsimp only); simp [*, World.cell?_alloc_some, World.cell?_setCell_far, World.cell?_setCell_other]))
        clear hK K
        try simp only [Act.put, List.setIfInBounds_toArray, List.set_cons_zero, List.set_cons_succ]
        refine wpAnyH_take (i := 4) (v := ?vvc16) rfl (by kernel_rfl) (by kernel_rfl) (by kernel_rfl) (fun _ _ _ h => h) (Or.inl ⟨by rfl, ?yyc16⟩) (by assumption) ?rrc16
        case yyc16 => (intro w' hSw; (try dsimp only at hSw); go_simp; (try with_reducible rfl))
        try simp only [Act.put, List.setIfInBounds_toArray, List.set_cons_zero, List.set_cons_succ]
        refine wpAnyH_take (i := 5) (v := ?vvc17) rfl (by kernel_rfl) (by kernel_rfl) (by kernel_rfl) (fun _ _ _ h => h) (Or.inl ⟨by rfl, ?yyc17⟩) (by assumption) ?rrc17
        case yyc17 => (intro w' hSw; (try dsimp only at hSw); go_simp; (try with_reducible rfl))
        try simp only [Act.put, List.setIfInBounds_toArray, List.set_cons_zero, List.set_cons_succ]
        refine wpAnyH_take (i := 6) (v := ?vvc18) rfl (by kernel_rfl) (by kernel_rfl) (by kernel_rfl) (fun _ _ _ h => h) (Or.inl ⟨by rfl, ?yyc18⟩) (by assumption) ?rrc18
        case yyc18 => (intro w' hSw; (try dsimp only at hSw); go_simp; (try with_reducible rfl))
        try simp only [Act.put, List.setIfInBounds_toArray, List.set_cons_zero, List.set_cons_succ]
        refine wpAnyH_ready (rs := [1]) (by kernel_rfl) (by simp) (AllReadyH.cons rfl (fun K hK => ?_) AllReadyH.nil)
        go_simp
        clear hHeld
        refine hK.out _ _ ?hs (fun hHeld => ?_)
        case hs => (first | trivial | ((try dsimp only); go_keep) | ((try dsimp only); simp [*, World.cell?_alloc_some, World.cell?_setCell_far, World.cell?_setCell_other]))
        clear hK K
        try simp only [Act.put, List.setIfInBounds_toArray, List.set_cons_zero, List.set_cons_succ]
        refine wpAnyH_take (i := 7) (v := ?vvc19) rfl (by kernel_rfl) (by kernel_rfl) (by kernel_rfl) (fun _ _ _ h => h) (Or.inl ⟨by rfl, ?yyc19⟩) (by assumption) ?rrc19
        case yyc19 => (intro w' hSw; (try dsimp only at hSw); go_simp; (try with_reducible rfl))
        try simp only [Act.put, List.setIfInBounds_toArray, List.set_cons_zero, List.set_cons_succ]
        refine wpAnyH_take (i := 8) (v := ?vvc20) rfl (by kernel_rfl) (by kernel_rfl) (by kernel_rfl) (fun _ _ _ h => h) (Or.inl ⟨by rfl, ?yyc20⟩) (by assumption) ?rrc20
        case yyc20 => (intro w' hSw; (try dsimp only at hSw); go_simp; (try with_reducible rfl))
        try simp only [Act.put, List.setIfInBounds_toArray, List.set_cons_zero, List.set_cons_succ]
        refine wpAnyH_ready (rs := [9]) (by kernel_rfl) (by simp) (AllReadyH.cons rfl (fun K hK => ?_) AllReadyH.nil)
        go_simp
        clear hHeld
        refine hK.out _ _ ?hs (fun hHeld => ?_)
        case hs => (first | trivial | ((try dsimp only); go_keep) | ((try dsimp only); simp [*, World.cell?_alloc_some, World.cell?_setCell_far, World.cell?_setCell_other]))
        clear hK K
        try simp only [Act.put, List.setIfInBounds_toArray, List.set_cons_zero, List.set_cons_succ]
        refine wpAnyH_done (by kernel_rfl) ?_ _
        clear hHeld
        go_wp2
        go_roundw
        case rel => exact ⟨_, _, _, _, _, _, _, _, _, _, _, _, _, _, ⟨m + 1, by simp, by omega, H6, hrow6⟩, rfl⟩
        case measure => simp [intOf]; omega
end Go.Proofs.YtpjbfdpblgjmfaaGreatDoor
