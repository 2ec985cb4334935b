/-
  The program's stack in memory: New, Push, Top, Pop.
-/
import Derived.Test.YtknjbiineihgfaaSb
set_option linter.unusedVariables false
set_option linter.unusedSimpArgs false
namespace Go.Proofs.Ytknjbiineihgfaa
open Go.RowKit

def cntN (L : List Sn) : Nat := (L.map (fun x => x.s.l.length)).sum
/-- The blocks of a row's own. -/
def own (b : Nat) (v : Value) : Nat → Prop := fun k => k = b ∨ v.ownBlock = some k
def rowCells (v : Value) (S : List Sn) (z : Sn) : Array Value := #[v, .pointer z.p, .int .i64 z.s.l.length, .int .i64 z.s.tag, .bool z.s.has, .int .i64 (cntN (S ++ [z]) : Nat)]
/-- A row of segments S and z in the block b of type T; frames lie in D. -/
structure StM (D : Nat → Prop) (w : World) (b : Nat) (T : TypeId) (v : Value) (S : List Sn) (z : Sn) : Prop where
  blk : w.heap[b]? = some (.cells (rowCells v S z) T (0, 0))
  row : w.ownsRow 0 57 4 v S.length (S.flatMap Sn.cells)
  ch : ∀ x ∈ S ++ [z], Chain D w x.p x.s.l.reverse
  dis : ∀ k, own b v k → ¬ D k
  ne : v.ownBlock ≠ some b
theorem row_cells {w : World} {b : Nat} {T : TypeId} {v : Value} {S : List Sn} {z : Sn} (hb : w.heap[b]? = some (.cells (rowCells v S z) T (0, 0))) :
    w.cell? ⟨b, 0, none⟩ = some v ∧ w.cell? ⟨b, 1, none⟩ = some (.pointer z.p) ∧ w.cell? ⟨b, 2, none⟩ = some (.int .i64 z.s.l.length) ∧ w.cell? ⟨b, 3, none⟩ = some (.int .i64 z.s.tag) ∧ w.cell? ⟨b, 4, none⟩ = some (.bool z.s.has) ∧ w.cell? ⟨b, 5, none⟩ = some (.int .i64 (cntN (S ++ [z]) : Nat)) ∧ ∀ i, w.frozen? ⟨b, i, none⟩ = false := by
  unfold rowCells at hb
  refine ⟨?_, ?_, ?_, ?_, ?_, ?_, fun i => ?_⟩ <;> simp [World.cell?, World.frozen?, hb]
theorem StM.cells {D : Nat → Prop} {w : World} {b : Nat} {T : TypeId} {v : Value} {S : List Sn} {z : Sn} (h : StM D w b T v S z) :
    w.cell? ⟨b, 0, none⟩ = some v ∧ w.cell? ⟨b, 1, none⟩ = some (.pointer z.p) ∧ w.cell? ⟨b, 2, none⟩ = some (.int .i64 z.s.l.length) ∧ w.cell? ⟨b, 3, none⟩ = some (.int .i64 z.s.tag) ∧ w.cell? ⟨b, 4, none⟩ = some (.bool z.s.has) ∧ w.cell? ⟨b, 5, none⟩ = some (.int .i64 (cntN (S ++ [z]) : Nat)) ∧ ∀ i, w.frozen? ⟨b, i, none⟩ = false := by
  have hb := h.blk
  unfold rowCells at hb
  refine ⟨?_, ?_, ?_, ?_, ?_, ?_, fun i => ?_⟩ <;> simp [World.cell?, World.frozen?, hb]
theorem StM.lt {D : Nat → Prop} {w : World} {b : Nat} {T : TypeId} {v : Value} {S : List Sn} {z : Sn} (h : StM D w b T v S z) : b < w.heap.size := (Array.getElem?_eq_some_iff.1 h.blk).1
theorem ownsRow_lt {w : World} {base : Nat} {e : TypeId} {size : Nat} {v : Value} {n : Nat} {xs : List Value} (h : w.ownsRow base e size v n xs) {k : Nat} (hk : v.ownBlock = some k) : k < w.heap.size := by
  rcases h.2 with ⟨rfl, _⟩ | ⟨g, cap, cur, rfl, _, hg, _⟩
  · cases hk
  · cases hk; exact (Array.getElem?_eq_some_iff.1 hg).1
theorem ownsRow_keep {w w' : World} {base : Nat} {e : TypeId} {size : Nat} {v : Value} {n : Nat} {xs : List Value} (h : w.ownsRow base e size v n xs) (hs : ∀ k, v.ownBlock = some k → w'.heap[k]? = w.heap[k]?) : w'.ownsRow base e size v n xs := by
  rcases h with ⟨hl, ⟨rfl, hn⟩ | ⟨g, cap, cur, rfl, hb, hg, h1, h2, h3, h4⟩⟩
  · exact ⟨hl, .inl ⟨rfl, hn⟩⟩
  · exact ⟨hl, .inr ⟨g, cap, cur, rfl, hb, (hs g rfl).trans hg, h1, h2, h3, h4⟩⟩
theorem StM.keep {D D' : Nat → Prop} {w w' : World} {b : Nat} {T : TypeId} {v : Value} {S : List Sn} {z : Sn} (h : StM D w b T v S z) (hD : ∀ k, D k → D' k) (hd : ∀ k, own b v k → ¬ D' k) (hs : ∀ k, own b v k ∨ D k → w'.heap[k]? = w.heap[k]?) : StM D' w' b T v S z :=
  ⟨(hs b (.inl (.inl rfl))).trans h.blk, ownsRow_keep h.row (fun k hk => hs k (.inl (.inr hk))), fun x hx => (h.ch x hx).keep hD (fun k hk => hs k (.inr hk)), hd, h.ne⟩
/-- Sets of blocks that only new blocks come to. -/
def More (w : World) (D D' : Nat → Prop) : Prop := ∀ k, D' k → D k ∨ w.heap.size ≤ k

set_option maxHeartbeats 1000000 in
theorem new_any (w : World) :
    Calls Try.prog 4 #[] w fun e w' => e = .returned (.pointer (some ⟨w.heap.size, 0, none⟩)) ∧ w' = w.alloc (.cells #[.slice none 0 0, .pointer none, .int .i64 0, .int .i64 0, .bool false, .int .i64 0] 61) := by
  go_enter Try.func4, Try.ntmps4
  go_wp2
  go_ret
  exact ⟨rfl, rfl⟩

theorem blk_set {w : World} {b i : Nat} {cs : Array Value} {T : TypeId} {v : Value} (h : w.heap[b]? = some (.cells cs T (0, 0))) : (w.setCell ⟨b, i, none⟩ v).heap[b]? = some (.cells (cs.setIfInBounds i v) T (0, 0)) := by
  rw [setCell_eq_setRow w b i _ _ _ _ h]
  exact setRow_heap w b _ _ _ _ h
theorem blk_alloc {w : World} {b : Nat} {o x : Obj} (h : w.heap[b]? = some o) : (w.alloc x).heap[b]? = some o := (Below.heap_alloc _ _ _ (Array.getElem?_eq_some_iff.1 h).1).trans h
theorem blk_other {w : World} {b : Nat} {o : Obj} {a : Addr} {v : Value} (h : w.heap[b]? = some o) (hne : b ≠ a.block) : (w.setCell a v).heap[b]? = some o := (Below.heap_setCell w a v b hne).trans h

set_option maxHeartbeats 1000000 in
theorem put_any (w : World) (c o : Nat) (p : Option Addr) (n : Nat) (f : Int) (hn : n < 1000000000000) (h0 : w.cell? ⟨c, o, none⟩ = some (.pointer p)) (h1 : w.cell? ⟨c, o + 1, none⟩ = some (.int .i64 n))
    (f0 : w.frozen? ⟨c, o, none⟩ = false) (f1 : w.frozen? ⟨c, o + 1, none⟩ = false) :
    Calls Try.prog 27 #[.pointer (some ⟨c, o, none⟩), .int .i64 f] w fun e w' => e = .returned (.tuple #[]) ∧
      w' = ((w.setCell ⟨c, o, none⟩ (.pointer (some ⟨w.heap.size, 0, none⟩))).setCell ⟨c, o + 1, none⟩ (.int .i64 ((n : Int) + 1))).alloc (.cells #[.int .i64 f, .pointer p] 72) := by
  have hcl : c < w.heap.size := block_lt_of_cell h0
  have hw : IntKind.i64.wrap ((n : Int) + 1) = (n : Int) + 1 := by rw [IntWalk.i64_in _ (by omega)]
  go_enter Try.func27, Try.ntmps27
  go_wp2
  go_end0
  exact ⟨rfl, rfl⟩

theorem Ch.set {O : Nat → Prop} {w w' : World} (h : Ch O w w') {a : Addr} (hl : O a.block) (v : Value) : Ch O w (w'.setCell a v) := h.trans (Ch.setCell w' a v hl) (fun _ h => .inl h)
theorem Ch.al {O : Nat → Prop} {w w' : World} (h : Ch O w w') (o : Obj) : Ch O w (w'.alloc o) := h.trans (Ch.alloc O w' o) (fun _ h => .inl h)
theorem Ch.dr {O : Nat → Prop} {w w' : World} (h : Ch O w w') : Ch O w w'.drew := h.trans (Ch.drew O w') (fun _ h => .inl h)
theorem StM.own_lt {D : Nat → Prop} {w : World} {b : Nat} {T : TypeId} {v : Value} {S : List Sn} {z : Sn} (h : StM D w b T v S z) {k : Nat} (hk : own b v k) : k < w.heap.size := by
  rcases hk with rfl | hk
  · exact h.lt
  · exact ownsRow_lt h.row hk
/-- The innermost segment and the count are turned alone. -/
theorem StM.upd {D D' : Nat → Prop} {w w' : World} {b : Nat} {T : TypeId} {v : Value} {S : List Sn} {z z' : Sn} (h : StM D w b T v S z) (hc : Ch (fun k => k = b) w w') (hDl : ∀ k, D k → k < w.heap.size) (hD : ∀ k, D k → D' k) (hnew : More w D D')
    (hb : w'.heap[b]? = some (.cells (rowCells v S z') T (0, 0))) (hz : Chain D' w' z'.p z'.s.l.reverse) : StM D' w' b T v S z' := by
  have hdb : ∀ k, D k → k ≠ b := fun k hk e => h.dis k (.inl e) hk
  refine ⟨hb, ownsRow_keep h.row (fun k hk => hc.same k (h.own_lt (.inr hk)) (fun e => h.ne (by rw [hk, e]))), fun x hx => ?_, fun k hk hk2 => ?_, h.ne⟩
  · rcases List.mem_append.1 hx with hx | hx
    · exact (h.ch x (List.mem_append.2 (.inl hx))).keep hD (fun k hk => hc.same k (hDl k hk) (hdb k hk))
    · obtain rfl : x = z' := by simpa using hx
      exact hz
  · rcases hnew k hk2 with h2 | h2
    · exact h.dis k hk h2
    · have := h.own_lt hk; omega
theorem cntN_push (S : List Sn) (z : Sn) (p : Option Addr) (f : Int) : cntN (S ++ [⟨p, z.s.has, z.s.tag, z.s.l ++ [f]⟩]) = cntN (S ++ [z]) + 1 := by
  simp [cntN]; omega

set_option maxHeartbeats 1000000 in
theorem push_any {D : Nat → Prop} (w : World) (b : Nat) (v : Value) (S : List Sn) (z : Sn) (f : Int) (hDl : ∀ k, D k → k < w.heap.size) (h : StM D w b 61 v S z) (hn : cntN (S ++ [z]) < 1000000000) :
    Calls Try.prog 7 #[.pointer (some ⟨b, 0, none⟩), .int .i64 f] w fun e w' => e = .returned (.tuple #[]) ∧
      StM (fun k => D k ∨ k = w.heap.size) w' b 61 v S ⟨some ⟨w.heap.size, 0, none⟩, z.s.has, z.s.tag, z.s.l ++ [f]⟩ ∧ Ch (fun k => k = b) w w' := by
  obtain ⟨c0, c1, c2, c3, c4, c5, hf⟩ := h.cells
  have hbl := h.lt
  have hzl : z.s.l.length < 1000000000 := by simp [cntN] at hn; omega
  have hw : IntKind.i64.wrap (((cntN (S ++ [z]) : Nat) : Int) + 1) = ((cntN (S ++ [z]) : Nat) : Int) + 1 := by rw [IntWalk.i64_in _ (by omega)]
  have hp := put_any w b 1 z.p z.s.l.length f (by omega) c1 c2 (hf 1) (hf 2)
  obtain ⟨N, hN⟩ : ∃ N, cntN (S ++ [z]) = N := ⟨_, rfl⟩
  rw [hN] at c5 hw hn
  go_enter Try.func7, Try.ntmps7
  go_wp2_with (go_at_call 27; refine hp.mono ?_; clear hp; rintro e w' ⟨rfl, rfl⟩; dsimp only)
  go_end0
  have hb := h.blk
  have hc : Ch (fun k => k = b) w (((((w.setCell ⟨b, 1, none⟩ (.pointer (some ⟨w.heap.size, 0, none⟩))).setCell ⟨b, 2, none⟩ (.int .i64 ((z.s.l.length : Int) + 1))).setCell ⟨b, 5, none⟩ (.int .i64 ((N : Int) + 1)))).alloc (.cells #[.int .i64 f, .pointer z.p] 72)) :=
    ((((Ch.refl (fun k => k = b) w).set (a := ⟨b, 1, none⟩) rfl _).set (a := ⟨b, 2, none⟩) rfl _).set (a := ⟨b, 5, none⟩) rfl _).al _
  refine ⟨rfl, h.upd hc hDl (fun k hk => .inl hk) (fun k hk => hk.imp_right (fun e => by omega)) ?_ ?_, hc⟩
  · refine blk_alloc ?_
    rw [blk_set (blk_set (blk_set hb))]
    simp [rowCells, cntN_push, hN]
  · rw [List.reverse_append]
    refine ⟨w.heap.size, z.p, rfl, .inr rfl, ?_, (h.ch z (by simp)).keep (fun k hk => .inl hk) (fun k hk => hc.same k (hDl k hk) (fun e => h.dis k (.inl e) hk))⟩
    have := World.alloc_heap_new ((((w.setCell ⟨b, 1, none⟩ (.pointer (some ⟨w.heap.size, 0, none⟩))).setCell ⟨b, 2, none⟩ (.int .i64 ((z.s.l.length : Int) + 1))).setCell ⟨b, 5, none⟩ (.int .i64 ((N : Int) + 1)))) (.cells #[.int .i64 f, .pointer z.p] 72)
    simpa using this

set_option maxHeartbeats 1000000 in
theorem top_none {D : Nat → Prop} (w : World) (b : Nat) (v : Value) (S : List Sn) (z : Sn) (h : StM D w b 61 v S z) (hz : z.s.l = []) :
    Calls Try.prog 11 #[.pointer (some ⟨b, 0, none⟩)] w fun e w' => e = .returned (.tuple #[.int .i64 0, .bool false]) ∧ w' = w := by
  obtain ⟨c0, c1, c2, c3, c4, c5, hf⟩ := h.cells
  rw [hz] at c2
  go_enter Try.func11, Try.ntmps11
  go_wp2
  refine bodyPost_ret (v := .tuple #[.int .i64 0, .bool false]) (by simp [results, Try.results11, go_sem]) rfl ?_
  exact ⟨rfl, rfl⟩

/-- The last frame. -/
theorem StM.last {D : Nat → Prop} {w : World} {b : Nat} {T : TypeId} {v : Value} {S : List Sn} {z : Sn} (h : StM D w b T v S z) {l : List Int} {f : Int} (hz : z.s.l = l ++ [f]) :
    ∃ g q, z.p = some ⟨g, 0, none⟩ ∧ D g ∧ w.cell? ⟨g, 0, none⟩ = some (.int .i64 f) ∧ w.cell? ⟨g, 1, none⟩ = some (.pointer q) ∧ Chain D w q l.reverse := by
  have := h.ch z (by simp)
  rw [hz, List.reverse_append] at this
  obtain ⟨g, q, hp, hg, hb, hr⟩ := this
  exact ⟨g, q, hp, hg, by simp [World.cell?, hb], by simp [World.cell?, hb], hr⟩

set_option maxHeartbeats 1000000 in
theorem top_some {D : Nat → Prop} (w : World) (b : Nat) (v : Value) (S : List Sn) (z : Sn) (h : StM D w b 61 v S z) (l : List Int) (f : Int) (hz : z.s.l = l ++ [f]) :
    Calls Try.prog 11 #[.pointer (some ⟨b, 0, none⟩)] w fun e w' => e = .returned (.tuple #[.int .i64 f, .bool true]) ∧ w' = w := by
  obtain ⟨c0, c1, c2, c3, c4, c5, hf⟩ := h.cells
  obtain ⟨g, q, hp, hg, g0, g1, hr⟩ := h.last hz
  rw [hz] at c2
  rw [hp] at c1
  have hne : ¬ (((l ++ [f]).length : Int) = 0) := by simp; omega
  go_enter Try.func11, Try.ntmps11
  go_wp2
  all_goals
    refine bodyPost_ret (v := .tuple #[.int .i64 f, .bool true]) (by simp [results, Try.results11, go_sem]) rfl ?_
    exact ⟨rfl, rfl⟩

set_option maxHeartbeats 1000000 in
theorem drop_any (w : World) (c o g : Nat) (q : Option Addr) (n : Nat) (hn : n < 1000000000000) (h0 : w.cell? ⟨c, o, none⟩ = some (.pointer (some ⟨g, 0, none⟩))) (h1 : w.cell? ⟨c, o + 1, none⟩ = some (.int .i64 ((n + 1 : Nat) : Int)))
    (hq : w.cell? ⟨g, 1, none⟩ = some (.pointer q)) (f0 : w.frozen? ⟨c, o, none⟩ = false) (f1 : w.frozen? ⟨c, o + 1, none⟩ = false) :
    Calls Try.prog 29 #[.pointer (some ⟨c, o, none⟩)] w fun e w' => e = .returned (.tuple #[]) ∧
      w' = (w.setCell ⟨c, o, none⟩ (.pointer q)).setCell ⟨c, o + 1, none⟩ (.int .i64 n) := by
  have hw : IntKind.i64.wrap (((n + 1 : Nat) : Int) - 1) = (n : Int) := by rw [IntWalk.i64_in _ (by omega)]; omega
  go_enter Try.func29, Try.ntmps29
  go_wp2
  go_end0
  exact ⟨rfl, rfl⟩

theorem cntN_pop (S : List Sn) (z : Sn) (p : Option Addr) (l : List Int) (f : Int) (hz : z.s.l = l ++ [f]) : cntN (S ++ [z]) = cntN (S ++ [⟨p, z.s.has, z.s.tag, l⟩]) + 1 := by
  simp [cntN, hz]; omega

set_option maxHeartbeats 1000000 in
theorem pop_none {D : Nat → Prop} (w : World) (b : Nat) (v : Value) (S : List Sn) (z : Sn) (h : StM D w b 61 v S z) (hz : z.s.l = []) :
    Calls Try.prog 9 #[.pointer (some ⟨b, 0, none⟩)] w fun e w' => e = .returned (.tuple #[.int .i64 0, .bool false]) ∧ w' = w := by
  have ht := top_none w b v S z h hz
  go_enter Try.func9, Try.ntmps9
  go_wp2_with (go_at_call 11; refine ht.mono ?_; clear ht; rintro e w ⟨rfl, rfl⟩; dsimp only)
  refine bodyPost_ret (v := .tuple #[.int .i64 0, .bool false]) (by simp [results, Try.results9, go_sem]) rfl ?_
  exact ⟨rfl, rfl⟩

set_option maxHeartbeats 1000000 in
theorem pop_some {D : Nat → Prop} (w : World) (b : Nat) (v : Value) (S : List Sn) (z : Sn) (hDl : ∀ k, D k → k < w.heap.size) (h : StM D w b 61 v S z) (l : List Int) (f : Int) (hz : z.s.l = l ++ [f]) (hn : cntN (S ++ [z]) < 1000000000) :
    Calls Try.prog 9 #[.pointer (some ⟨b, 0, none⟩)] w fun e w' => e = .returned (.tuple #[.int .i64 f, .bool true]) ∧
      ∃ q, StM D w' b 61 v S ⟨q, z.s.has, z.s.tag, l⟩ ∧ Ch (fun k => k = b) w w' := by
  obtain ⟨c0, c1, c2, c3, c4, c5, hf⟩ := h.cells
  obtain ⟨g, q, hp, hg, g0, g1, hr⟩ := h.last hz
  have ht := top_some w b v S z h l f hz
  have eN := cntN_pop S z q l f hz
  obtain ⟨N, hN⟩ : ∃ N, cntN (S ++ [⟨q, z.s.has, z.s.tag, l⟩]) = N := ⟨_, rfl⟩
  rw [hN] at eN
  rw [eN] at c5 hn
  rw [hp] at c1
  have e2 : z.s.l.length = l.length + 1 := by rw [hz]; simp
  rw [e2] at c2
  have hll : l.length < 1000000000 := by simp [cntN] at hN; omega
  have hgb : g ≠ b := fun e => h.dis g (.inl e) hg
  have hw : IntKind.i64.wrap (((N + 1 : Nat) : Int) - 1) = (N : Int) := by rw [IntWalk.i64_in _ (by omega)]; omega
  have hd := drop_any w b 1 g q l.length (by omega) c1 c2 g1 (hf 1) (hf 2)
  go_enter Try.func9, Try.ntmps9
  go_wp2_with (first | (go_at_call 11; refine ht.mono ?_; clear ht; rintro e w ⟨rfl, rfl⟩; dsimp only) | (go_at_call 29; refine hd.mono ?_; clear hd; rintro e w' ⟨rfl, rfl⟩; dsimp only))
  refine bodyPost_ret (v := .tuple #[.int .i64 f, .bool true]) (by simp [results, Try.results9, go_sem]) rfl ?_
  have hc : Ch (fun k => k = b) w (((w.setCell ⟨b, 1, none⟩ (.pointer q)).setCell ⟨b, 2, none⟩ (.int .i64 (l.length : Int))).setCell ⟨b, 5, none⟩ (.int .i64 (N : Int))) :=
    (((Ch.refl (fun k => k = b) w).set (a := ⟨b, 1, none⟩) rfl _).set (a := ⟨b, 2, none⟩) rfl _).set (a := ⟨b, 5, none⟩) rfl _
  refine ⟨rfl, q, h.upd hc hDl (fun k hk => hk) (fun k hk => .inl hk) ?_ (hr.keep (fun k hk => hk) (fun k hk => hc.same k (hDl k hk) (fun e => h.dis k (.inl e) hk))), hc⟩
  rw [blk_set (blk_set (blk_set h.blk))]
  simp [rowCells, hN]
end Go.Proofs.Ytknjbiineihgfaa
