/-
  The heap's Collect where nothing lies in it: reach, follow, kept, settle, refer, slide.
  The machine's roots, of a machine that has just been loaded; Collect, Live.
  The machine's roots, of a machine that has just been loaded.
  Collect and Live of a machine that has just been loaded: nothing is reached.
-/
import Derived.Test.YtpjbfdpblgjmfaaGreatDoorMZ
import Derived.Test.YtpjbfdpblgjmfaaGreatDoorZe
set_option linter.unusedVariables false
set_option linter.unusedSimpArgs false
namespace Go.Proofs.YtpjbfdpblgjmfaaGreatDoor
open Go.RowKit Go.Shelf
attribute [local go_sem] Oper.semAt_some

set_option maxRecDepth 100000 in
set_option maxHeartbeats 4000000 in
theorem reach_no (w : World) (hv : Value) (b o : Nat) (h : w.cell? ⟨b, o, none⟩ = some (.bool false)) :
    Calls Tryz.prog 40 #[hv, .pointer (some ⟨b, o, none⟩)] w fun e w' => e = .returned (.tuple #[]) ∧ w' = w := by
  go_enter Tryz.func40, Tryz.ntmps40
  go_wp2
  refine bodyPost_ret (results_none rfl _ _ _) rfl ?_
  exact ⟨rfl, rfl⟩
set_option maxRecDepth 100000 in
set_option maxHeartbeats 4000000 in
theorem follow_no (w : World) (hv : Value) (b o : Nat) (h : w.cell? ⟨b, o, none⟩ = some (.bool false)) :
    Calls Tryz.prog 43 #[hv, .pointer (some ⟨b, o, none⟩)] w fun e w' => e = .returned (.tuple #[]) ∧ w' = w := by
  go_enter Tryz.func43, Tryz.ntmps43
  go_wp2
  refine bodyPost_ret (results_none rfl _ _ _) rfl ?_
  exact ⟨rfl, rfl⟩

set_option maxRecDepth 100000 in
set_option maxHeartbeats 4000000 in
theorem kept_goes (w : World) (hb : Nat) (h : w.cell? ⟨hb, 1, none⟩ = some (.int .i64 0)) (D : Nat → Prop) :
    Goes Tryz.prog 74 #[.pointer (some ⟨hb, 0, none⟩)] #[] (fun x : Int => #[.int .i64 x]) [] D w := by
  intro l J O hJ hDO hY h0
  refine callsIn_of_wp Tryz.func74 rfl trivial ?_ rfl
  simp only [Tryz.ntmps74, List.size_toArray, List.length_cons, List.length_nil, Nat.reduceAdd, Nat.reduceSub, Array.replicate_succ, Array.replicate_zero, List.push_toArray, List.append_toArray, List.nil_append, List.cons_append]
  gi_wp2
  gi_loopw [4] (fun i wr => i = .int .i64 0 ∧ wr = w) (fun i _ => 0)
  case atStart => exact ⟨rfl, rfl⟩
  case round =>
    obtain ⟨rfl, rfl⟩ := hrel
    gi_wp2
    go_end0
    exact ⟨⟨_, rfl⟩, O, h0, Ch.refl _ _, fun k h => .inl h⟩

/-- Nothing comes: of whatever kind. -/
theorem Goes.none {α : Type} {P : Program} {g : Nat} {bd lb : Array Value} {encs : α → Array Value} {D : Nat → Prop} {w : World} (h : Goes P g bd lb encs [] D w) : Goes P g bd lb (fun x : Empty => x.elim) [] D w := by
  intro l J O hJ hDO hY h0
  exact h l (fun _ => J []) O ⟨fun _ => hJ.keep [], fun _ => hJ.lt []⟩ hDO (fun pre x O1 W1 _ ⟨rest, hx⟩ => by cases pre <;> cases hx) h0
theorem wp_range0 {α : Type} {P : Program} {g : Operand} {ps : Array Tmp} {assign body : Code} {Q : Exit → Act → World → Prop} {a : Act} {w : World}
    {gf : Nat} {bd lb : Array Value} (hg : a.eval g = .func (.func gf) bd lb) (eg : ∀ args w, (callFunc gf args).run P w = .ok (.enter gf args) w)
    {encs : α → Array Value} {D : Nat → Prop} (hseq : ∀ W1, Ch (fun _ => False) w W1 → Goes P gf bd lb encs [] D W1) (hD : ∀ k, D k → k < w.heap.size)
    (hdone : ∀ (D1 : Nat) (W : World), w.heap.size ≤ D1 → Ch (fun _ => False) w W → W.heap[D1]? = some (.deferred (some [])) →
      Q .normal { a with defers := { target := .collected D1, args := #[] } :: a.defers } W) :
    (Code.rangeFunc g ps assign body).wpIn Fence.wide 0 P Q a w :=
  wp_range (α := Empty) hg eg (fun W1 h => (hseq W1 h).none) hD (fun x => x.elim) (O := fun _ => False) (fun _ _ h => h) (fun _ O _ => ∀ k, ¬ O k) ⟨fun _ _ _ _ h _ _ _ => h, fun _ _ _ k h hk => absurd hk (h k)⟩ (fun _ h => h) (fun x => x.elim) (fun _ x => x.elim) (fun _ _ x => x.elim)
    (fun D1 _ W h1 _ _ hc _ hk => hdone D1 W h1 hc hk)
theorem ch_took {w W : World} {D1 : Nat} (hc : Ch (fun _ => False) w W) (h1 : w.heap.size ≤ D1) : Ch (fun _ => False) w (W.putObj D1 (.deferred none)) :=
  hc.trans (Ch.put (O := fun k => k = D1) W D1 _ rfl) (fun k hk => .inr (by omega))

set_option maxRecDepth 100000 in
set_option maxHeartbeats 4000000 in
theorem settle_zero (w : World) (hb : Nat) (h : w.cell? ⟨hb, 1, none⟩ = some (.int .i64 0)) :
    Calls Tryz.prog 41 #[.pointer (some ⟨hb, 0, none⟩)] w fun e w' => e = .returned (.int .i64 0) ∧ Ch (fun _ => False) w w' := by
  refine (callsIn_wide (n := 0)).1 ?_
  refine callsIn_of_wp_marks Tryz.func41 rfl trivial ?_ rfl
  simp only [Tryz.ntmps41, List.size_toArray, List.length_cons, List.length_nil, Nat.reduceAdd, Nat.reduceSub, Array.replicate_succ, Array.replicate_zero, List.push_toArray, List.append_toArray, List.nil_append, List.cons_append]
  have hbl : hb < w.heap.size := block_lt_of_cell h
  gi_wp2
  obtain ⟨W0, hW0⟩ : ∃ W0, (w.alloc (.cells #[.pointer (some ⟨hb, 0, none⟩)] 48)).alloc (.cells #[.int .i64 0] 3) = W0 := ⟨_, rfl⟩
  have hc0 : Ch (fun _ => False) w W0 := by rw [← hW0]; exact ((Ch.refl _ w).al _).al _
  have hs0 : W0.heap.size = w.heap.size + 2 := by rw [← hW0]; simp
  have b1 : W0.heap[w.heap.size + 1]? = some (.cells #[.int .i64 0] 3 (0, 0)) := by
    rw [← hW0]; have := World.alloc_heap_new (w.alloc (.cells #[.pointer (some ⟨hb, 0, none⟩)] 48)) (.cells #[.int .i64 0] 3); rwa [World.size_alloc] at this
  rw [hW0]
  clear hW0
  have hh0 : W0.cell? ⟨hb, 1, none⟩ = some (.int .i64 0) := (hc0.cell (p := ⟨hb, 1, none⟩) hbl (fun h => h)).trans h
  refine wp_range0 (gf := 74) (bd := #[.pointer (some ⟨hb, 0, none⟩)]) (lb := #[]) (D := fun _ => False) rfl (enters_of Tryz.func74 (by kernel_rfl) rfl) (fun W1 hc1 => kept_goes W1 hb ((hc1.cell (p := ⟨hb, 1, none⟩) (by show hb < _; omega) (fun h => h)).trans hh0) _) (fun k hk => hk.elim) ?_
  intro D1 W hD1 hc hk
  have hv : W.cell? ⟨w.heap.size + 1, 0, none⟩ = some (.int .i64 0) := by simp [World.cell?, (hc.same (w.heap.size + 1) (by omega) (fun h => h)).trans b1]
  gi_wp2
  refine ⟨by simp, .inl ⟨_, _, rfl, run_takeDeferred hk, ?_⟩⟩
  refine ⟨_, results_tmp rfl _ _ _, rfl, ?_⟩
  exact ch_took (hc0.trans hc (fun _ h => .inl h)) (by omega)
set_option maxRecDepth 100000 in
set_option maxHeartbeats 4000000 in
theorem refer_zero (w : World) (hb : Nat) (h : w.cell? ⟨hb, 1, none⟩ = some (.int .i64 0)) :
    Calls Tryz.prog 42 #[.pointer (some ⟨hb, 0, none⟩)] w fun e w' => e = .returned (.tuple #[]) ∧ Ch (fun _ => False) w w' := by
  refine (callsIn_wide (n := 0)).1 ?_
  refine callsIn_of_wp_marks Tryz.func42 rfl trivial ?_ rfl
  simp only [Tryz.ntmps42, List.size_toArray, List.length_cons, List.length_nil, Nat.reduceAdd, Nat.reduceSub, Array.replicate_succ, Array.replicate_zero, List.push_toArray, List.append_toArray, List.nil_append, List.cons_append]
  have hbl : hb < w.heap.size := block_lt_of_cell h
  gi_wp2
  obtain ⟨W0, hW0⟩ : ∃ W0, w.alloc (.cells #[.pointer (some ⟨hb, 0, none⟩)] 48) = W0 := ⟨_, rfl⟩
  have hc0 : Ch (fun _ => False) w W0 := by rw [← hW0]; exact (Ch.refl _ w).al _
  have hs0 : W0.heap.size = w.heap.size + 1 := by rw [← hW0]; simp
  rw [hW0]
  clear hW0
  have hh0 : W0.cell? ⟨hb, 1, none⟩ = some (.int .i64 0) := (hc0.cell (p := ⟨hb, 1, none⟩) hbl (fun h => h)).trans h
  refine wp_range0 (gf := 74) (bd := #[.pointer (some ⟨hb, 0, none⟩)]) (lb := #[]) (D := fun _ => False) rfl (enters_of Tryz.func74 (by kernel_rfl) rfl) (fun W1 hc1 => kept_goes W1 hb ((hc1.cell (p := ⟨hb, 1, none⟩) (by show hb < _; omega) (fun h => h)).trans hh0) _) (fun k hk => hk.elim) ?_
  intro D1 W hD1 hc hk
  gi_wp2
  refine ⟨by simp, .inl ⟨_, _, rfl, run_takeDeferred hk, ?_⟩⟩
  refine ⟨_, results_none rfl _ _ _, rfl, ?_⟩
  exact ch_took (hc0.trans hc (fun _ h => .inl h)) (by omega)
set_option maxRecDepth 100000 in
set_option maxHeartbeats 4000000 in
theorem slide_zero (w : World) (hb : Nat) (h : w.cell? ⟨hb, 1, none⟩ = some (.int .i64 0)) :
    Calls Tryz.prog 44 #[.pointer (some ⟨hb, 0, none⟩)] w fun e w' => e = .returned (.tuple #[]) ∧ Ch (fun _ => False) w w' := by
  refine (callsIn_wide (n := 0)).1 ?_
  refine callsIn_of_wp_marks Tryz.func44 rfl trivial ?_ rfl
  simp only [Tryz.ntmps44, List.size_toArray, List.length_cons, List.length_nil, Nat.reduceAdd, Nat.reduceSub, Array.replicate_succ, Array.replicate_zero, List.push_toArray, List.append_toArray, List.nil_append, List.cons_append]
  have hbl : hb < w.heap.size := block_lt_of_cell h
  gi_wp2
  obtain ⟨W0, hW0⟩ : ∃ W0, w.alloc (.cells #[.pointer (some ⟨hb, 0, none⟩)] 48) = W0 := ⟨_, rfl⟩
  have hc0 : Ch (fun _ => False) w W0 := by rw [← hW0]; exact (Ch.refl _ w).al _
  have hs0 : W0.heap.size = w.heap.size + 1 := by rw [← hW0]; simp
  rw [hW0]
  clear hW0
  have hh0 : W0.cell? ⟨hb, 1, none⟩ = some (.int .i64 0) := (hc0.cell (p := ⟨hb, 1, none⟩) hbl (fun h => h)).trans h
  refine wp_range0 (gf := 74) (bd := #[.pointer (some ⟨hb, 0, none⟩)]) (lb := #[]) (D := fun _ => False) rfl (enters_of Tryz.func74 (by kernel_rfl) rfl) (fun W1 hc1 => kept_goes W1 hb ((hc1.cell (p := ⟨hb, 1, none⟩) (by show hb < _; omega) (fun h => h)).trans hh0) _) (fun k hk => hk.elim) ?_
  intro D1 W hD1 hc hk
  gi_wp2
  refine ⟨by simp, .inl ⟨_, _, rfl, run_takeDeferred hk, ?_⟩⟩
  refine ⟨_, results_none rfl _ _ _, rfl, ?_⟩
  exact ch_took (hc0.trans hc (fun _ h => .inl h)) (by omega)
end Go.Proofs.YtpjbfdpblgjmfaaGreatDoor

namespace Go.Proofs.YtpjbfdpblgjmfaaGreatDoor
open Go.RowKit Go.Shelf
attribute [local go_sem] Oper.semAt_some

/-- A call at its beginning, in the block cb. -/
def CallAt (w : World) (cb : Nat) (n : Int) : Prop := w.heap[cb]? = some (.cells #[.bool false, .int .i64 0, .int .i64 0, .bool false, .int .i64 0, .int .i64 0, .int .i64 n, .slice none 0 0, .slice none 0 0] 112 (0, 0))

set_option maxRecDepth 100000 in
set_option maxHeartbeats 4000000 in
theorem each_nil (w : World) (y : Value) :
    Calls Tryz.prog 80 #[.slice none 0 0, y] w fun e w' => e = .returned (.bool true) ∧ w' = w := by
  go_enter Tryz.func80, Tryz.ntmps80
  go_wp2
  refine wp_loop_rounds 1 ?_
  rw [rounds_succ]
  go_wp2
  go_ret
  exact ⟨rfl, rfl⟩
set_option maxRecDepth 100000 in
set_option maxHeartbeats 4000000 in
theorem slots_nil (w : World) (b o : Nat) (y : Value) (h : w.cell? ⟨b, o + 1, none⟩ = some (.slice none 0 0)) :
    Calls Tryz.prog 79 #[.pointer (some ⟨b, o, none⟩), y] w fun e w' => e = .returned (.bool true) ∧ w' = w := by
  go_enter Tryz.func79, Tryz.ntmps79
  go_wp2
  refine wp_loop_rounds 1 ?_
  rw [rounds_succ]
  go_wp2
  go_ret
  exact ⟨rfl, rfl⟩

abbrev addrV (x : Addr) : Array Value := #[.pointer (some x)]
set_option maxRecDepth 100000 in
set_option maxHeartbeats 4000000 in
theorem cells_goes (w : World) (cb : Nat) (n : Int) (h : CallAt w cb n) (l : Nat) (J : List Addr → (Nat → Prop) → World → Prop) (O : Nat → Prop) (hO : ¬ O cb)
    (hY : ∀ pre x O1 W1, J pre O1 W1 → (∃ rest, ([⟨cb, 0, none⟩, ⟨cb, 3, none⟩] : List Addr) = pre ++ x :: rest) → YieldAt Fence.wide 0 Tryz.prog l (addrV x) W1 fun e W' =>
      e = .returned (.bool true) ∧ ∃ O2, J (pre ++ [x]) O2 W' ∧ Ch O1 W1 W' ∧ ∀ k, O2 k → O1 k ∨ W1.heap.size ≤ k) (h0 : J [] O w) :
    CallsIn Fence.wide 0 Tryz.prog 47 #[.pointer (some ⟨cb, 0, none⟩), .func (.yield l) #[] #[]] w fun e W' => e = .returned (.bool true) ∧ ∃ O2, J [⟨cb, 0, none⟩, ⟨cb, 3, none⟩] O2 W' ∧ Ch O w W' ∧ ∀ k, O2 k → O k ∨ w.heap.size ≤ k := by
  have hcl : cb < w.heap.size := (Array.getElem?_eq_some_iff.1 h).1
  refine callsIn_of_wp Tryz.func47 rfl trivial ?_ rfl
  simp only [Tryz.ntmps47, List.size_toArray, List.length_cons, List.length_nil, Nat.reduceAdd, Nat.reduceSub, Array.replicate_succ, Array.replicate_zero, List.push_toArray, List.append_toArray, List.nil_append, List.cons_append]
  obtain ⟨fn, tmps, assign, body, hy, hR⟩ := hY [] ⟨cb, 0, none⟩ O w h0 ⟨_, rfl⟩
  dsimp only [addrV] at hy
  gi_wp2
  refine ⟨rfl, hR.mono ?_⟩
  rintro e W1 ⟨rfl, O1, hJ1, hc1, hs1⟩
  dsimp only
  clear hy hR
  obtain ⟨fn, tmps, assign, body, hy, hR⟩ := hY [⟨cb, 0, none⟩] ⟨cb, 3, none⟩ O1 W1 hJ1 ⟨_, rfl⟩
  dsimp only [addrV] at hy
  gi_wp2
  refine ⟨rfl, hR.mono ?_⟩
  rintro e W2 ⟨rfl, O2, hJ2, hc2, hs2⟩
  dsimp only
  clear hy hR
  have hO1 : ¬ O1 cb := fun hh => by rcases hs1 _ hh with g | g; exact hO g; omega
  have hW2 : CallAt W2 cb n := ((hc2.same cb (by have := hc1.size; omega) hO1).trans (hc1.same cb hcl hO)).trans h
  have c7 : W2.cell? ⟨cb, 7, none⟩ = some (.slice none 0 0) := by unfold CallAt at hW2; simp [World.cell?, hW2]
  have c8 : W2.cell? ⟨cb, 8, none⟩ = some (.slice none 0 0) := by unfold CallAt at hW2; simp [World.cell?, hW2]
  have HS := slots_nil W2 cb 6 (.func (.yield l) #[] #[]) c7
  have HE := each_nil W2 (.func (.yield l) #[] #[])
  have fin : ∃ O2, J [⟨cb, 0, none⟩, ⟨cb, 3, none⟩] O2 W2 ∧ Ch O w W2 ∧ ∀ k, O2 k → O k ∨ w.heap.size ≤ k := by
    refine ⟨O2, hJ2, hc1.trans hc2 hs1, fun k hk => ?_⟩
    rcases hs2 k hk with g | g
    · exact hs1 k g
    · have := hc1.size; exact .inr (by omega)
  clear hJ1 hJ2 hc1 hc2 hs1 hs2 hY h0 hW2
  gi_wp2_with (first
    | (refine ⟨trivial, rfl, (callsIn_wide.2 HS).mono ?_⟩; clear HS; rintro e w9 ⟨rfl, rfl⟩; dsimp only)
    | (refine ⟨trivial, rfl, (callsIn_wide.2 HE).mono ?_⟩; clear HE; rintro e w9 ⟨rfl, rfl⟩; dsimp only))
  go_ret
  exact ⟨rfl, fin⟩
end Go.Proofs.YtpjbfdpblgjmfaaGreatDoor

namespace Go.Proofs.YtpjbfdpblgjmfaaGreatDoor
open Go.RowKit Go.Shelf
attribute [local go_sem] Oper.semAt_some

theorem Tags_any (w : World) (b : Nat) :
    Calls Tryz.prog 45 #[.pointer (some ⟨b, 0, none⟩)] w fun e w' => e = .returned (.func (.func 75) #[] #[.pointer (some ⟨w.heap.size, 0, none⟩)]) ∧ w' = w.alloc (.cells #[.pointer (some ⟨b, 0, none⟩)] 188) := by
  go_enter Tryz.func45, Tryz.ntmps45
  go_wp2
  go_ret
  exact ⟨rfl, rfl⟩
theorem All_any (w : World) (b : Nat) :
    Calls Tryz.prog 46 #[.pointer (some ⟨b, 0, none⟩)] w fun e w' => e = .returned (.func (.func 77) #[] #[.pointer (some ⟨w.heap.size, 0, none⟩)]) ∧ w' = w.alloc (.cells #[.pointer (some ⟨b, 0, none⟩)] 188) := by
  go_enter Tryz.func46, Tryz.ntmps46
  go_wp2
  go_ret
  exact ⟨rfl, rfl⟩

/-- The one segment: it has no tag, and one call. -/
def oneSeg (fb cb : Nat) : Sn := ⟨some ⟨fb, 0, none⟩, ⟨false, none, [some ⟨cb, 0, none⟩]⟩⟩
/-- The stack of a machine that has just been loaded. -/
structure StkAt (w : World) (sb fb cb : Nat) : Prop where
  s : w.heap[sb]? = some (.cells #[.slice none 0 0, .pointer (some ⟨fb, 0, none⟩), .int .i64 1, .pointer none, .bool false, .int .i64 1] 101 (0, 0))
  f : w.heap[fb]? = some (.cells #[.pointer (some ⟨cb, 0, none⟩), .pointer none] 173 (0, 0))
theorem StkAt.row {w : World} {sb fb cb : Nat} (h : StkAt w sb fb cb) {D : Nat → Prop} (hs : D sb) (hf : D fb) : RowAt D w sb [] (oneSeg fb cb) none 0 0 1 := by
  refine ⟨by simp [World.cell?, h.s], .inl rfl, ⟨?_, ?_, ?_, ?_⟩, by simp [World.cell?, h.s], fun i x hx => by simp at hx, fun x hx => ?_, hs, .inl rfl⟩
  · simp [World.cell?, h.s, oneSeg]
  · simp [World.cell?, h.s, oneSeg]
  · simp [World.cell?, h.s, oneSeg]
  · simp [World.cell?, h.s, oneSeg]
  · obtain rfl : x = oneSeg fb cb := by simpa using hx
    exact ⟨fb, none, rfl, hf, h.f, rfl⟩
theorem StkAt.keep {w w' : World} {sb fb cb : Nat} (h : StkAt w sb fb cb) (h1 : w'.heap[sb]? = w.heap[sb]?) (h2 : w'.heap[fb]? = w.heap[fb]?) : StkAt w' sb fb cb := ⟨h1.trans h.s, h2.trans h.f⟩

set_option maxRecDepth 100000 in
set_option maxHeartbeats 4000000 in
theorem roots_goes (w : World) (mb sb fb cb : Nat) (n : Int) (hm : w.cell? ⟨mb, 6, none⟩ = some (.pointer (some ⟨sb, 0, none⟩))) (hst : StkAt w sb fb cb) (hc : CallAt w cb n) :
    Goes Tryz.prog 20 #[.pointer (some ⟨mb, 0, none⟩)] #[] addrV [⟨cb, 0, none⟩, ⟨cb, 3, none⟩] (fun k => k = mb ∨ k = sb ∨ k = fb ∨ k = cb) w := by
  intro l J O hJ hDO hY h0
  have hml : mb < w.heap.size := block_lt_of_cell hm
  have hsl : sb < w.heap.size := (Array.getElem?_eq_some_iff.1 hst.s).1
  have hfl : fb < w.heap.size := (Array.getElem?_eq_some_iff.1 hst.f).1
  have hcl : cb < w.heap.size := (Array.getElem?_eq_some_iff.1 hc).1
  have hO : ∀ k, O k → k < w.heap.size := fun k hk => hJ.lt _ _ _ _ h0 hk
  refine callsIn_of_wp_marks Tryz.func20 rfl trivial ?_ rfl
  simp only [Tryz.ntmps20, List.size_toArray, List.length_cons, List.length_nil, Nat.reduceAdd, Nat.reduceSub, Array.replicate_succ, Array.replicate_zero, List.push_toArray, List.append_toArray, List.nil_append, List.cons_append]
  have hm1 : (w.alloc (.cells #[.func (.yield l) #[] #[]] 105)).cell? ⟨mb, 6, none⟩ = some (.pointer (some ⟨sb, 0, none⟩)) := ((Ch.alloc (fun _ => False) w _).cell (p := ⟨mb, 6, none⟩) hml (fun h => h)).trans hm
  gi_wp2_with (refine ⟨trivial, rfl, (callsIn_wide.2 (Tags_any _ _)).mono ?_⟩; rintro e w' ⟨rfl, rfl⟩; dsimp only)
  clear hm1
  obtain ⟨W0, hW0⟩ : ∃ W0, (w.alloc (.cells #[.func (.yield l) #[] #[]] 105)).alloc (.cells #[.pointer (some ⟨sb, 0, none⟩)] 188) = W0 := ⟨_, rfl⟩
  have hc0 : Ch (fun _ => False) w W0 := by rw [← hW0]; exact ((Ch.refl _ w).al _).al _
  have hs0 : W0.heap.size = w.heap.size + 2 := by rw [← hW0]; simp
  have b0 : W0.heap[w.heap.size]? = some (.cells #[.func (.yield l) #[] #[]] 105 (0, 0)) := by
    rw [← hW0]; exact (Below.heap_alloc _ _ _ (by simp)).trans (World.alloc_heap_new w _)
  have b1 : W0.heap[w.heap.size + 1]? = some (.cells #[.pointer (some ⟨sb, 0, none⟩)] 188 (0, 0)) := by
    rw [← hW0]; have := World.alloc_heap_new (w.alloc (.cells #[.func (.yield l) #[] #[]] 105)) (.cells #[.pointer (some ⟨sb, 0, none⟩)] 188); rwa [World.size_alloc] at this
  try simp only [World.size_alloc]
  rw [hW0]
  clear hW0
  refine wp_range0 (gf := 75) (bd := #[]) (lb := #[.pointer (some ⟨w.heap.size + 1, 0, none⟩)]) (encs := pairV) (D := fun k => k = w.heap.size + 1 ∨ k = sb ∨ k = fb) rfl (enters_of Tryz.func75 (by kernel_rfl) rfl)
    (fun W1 hc1 => ?tg) (fun k hk => by omega) ?_
  case tg =>
    have e1 : ∀ k, k < w.heap.size + 2 → W1.heap[k]? = W0.heap[k]? := fun k hk => hc1.same k (by omega) (fun h => h)
    have e0 : ∀ k, k < w.heap.size → W0.heap[k]? = w.heap[k]? := fun k hk => hc0.same k hk (fun h => h)
    have := Tags1_goes W1 (fun k => k = w.heap.size + 1 ∨ k = sb ∨ k = fb) (w.heap.size + 1) sb [] (oneSeg fb cb) none 0 0 1 (by simp [World.cell?, (e1 (w.heap.size + 1) (by omega)).trans b1]) (.inl rfl) (fun k hk => by have := hc1.size; omega)
      ((hst.keep ((e1 sb (by omega)).trans (e0 sb hsl)) ((e1 fb (by omega)).trans (e0 fb hfl))).row (.inr (.inl rfl)) (.inr (.inr rfl))) (by simp)
    simpa [flatT, oneSeg] using this
  intro D1 W hD1 hcW hk1
  have eW : ∀ k, k < w.heap.size → W.heap[k]? = w.heap[k]? := fun k hk => (hcW.same k (by omega) (fun h => h)).trans (hc0.same k hk (fun h => h))
  have eb0 : W.heap[w.heap.size]? = some (.cells #[.func (.yield l) #[] #[]] 105 (0, 0)) := (hcW.same _ (by omega) (fun h => h)).trans b0
  have hmW : W.cell? ⟨mb, 6, none⟩ = some (.pointer (some ⟨sb, 0, none⟩)) := by rw [World.cell?_of_block (w := w) (eW mb hml)]; exact hm
  have hzW := hcW.size
  clear b0 b1
  gi_wp2_with (refine ⟨trivial, rfl, (callsIn_wide.2 (All_any _ _)).mono ?_⟩; rintro e w' ⟨rfl, rfl⟩; dsimp only)
  obtain ⟨V, hV⟩ : ∃ V, W.alloc (.cells #[.pointer (some ⟨sb, 0, none⟩)] 188) = V := ⟨_, rfl⟩
  have hcV : Ch (fun _ => False) W V := by rw [← hV]; exact (Ch.refl _ W).al _
  have hsV : V.heap.size = W.heap.size + 1 := by rw [← hV]; simp
  have bV : V.heap[W.heap.size]? = some (.cells #[.pointer (some ⟨sb, 0, none⟩)] 188 (0, 0)) := by rw [← hV]; exact World.alloc_heap_new W _
  rw [hV]
  clear hV hmW
  have eV : ∀ k, k < w.heap.size → V.heap[k]? = w.heap[k]? := fun k hk => (hcV.same k (by omega) (fun h => h)).trans (eW k hk)
  have hwV : Ch (fun _ => False) w V := (hc0.trans hcW (fun _ h => .inl h)).trans hcV (fun _ h => .inl h)
  refine wp_range (gf := 77) (bd := #[]) (lb := #[.pointer (some ⟨W.heap.size, 0, none⟩)]) (encs := pairV) (xs := [((0 : Int), some (⟨cb, 0, none⟩ : Addr))]) (D := fun k => k = W.heap.size ∨ k = sb ∨ k = fb) (O := O) rfl (enters_of Tryz.func77 (by kernel_rfl) rfl)
    (fun W1 hc1 => ?ag) (fun k hk => by omega) (fun _ => rfl) (fun k hk hk2 => ?dj)
    (fun pre O1 X => J (pre.flatMap (fun _ => [⟨cb, 0, none⟩, ⟨cb, 3, none⟩])) O1 X)
    ⟨fun s O' X Y hs heo hsz hsm => hJ.keep _ _ _ _ hs heo hsz (fun k hk => hsm k (hk.imp_right (fun h => by omega))), fun s O' X k hs hk => hJ.lt _ _ _ _ hs hk⟩
    (hJ.keep _ _ _ _ h0 hwV.eo hwV.size (fun k hk => hwV.same k (by rcases hk with h | h; exact hO k h; exact h) (fun h => h)))
    (fun x => { tmps := #[.pointer (some ⟨mb, 0, none⟩), .func (.yield l) #[] #[], undef, .pointer (some ⟨w.heap.size, 0, none⟩), undef, undef, undef, .pointer x.2, .pointer (some ⟨mb, 0, none⟩), .pointer (some ⟨mb, 0, none⟩), .pointer (some ⟨mb, 6, none⟩), .pointer (some ⟨sb, 0, none⟩), .pointer (some ⟨sb, 0, none⟩), .pointer (some ⟨sb, 0, none⟩), .func (.func 75) #[] #[.pointer (some ⟨w.heap.size + 1, 0, none⟩)], undef, undef, undef, undef, undef, undef, .pointer (some ⟨mb, 0, none⟩), .pointer (some ⟨mb, 0, none⟩), .pointer (some ⟨mb, 6, none⟩), .pointer (some ⟨sb, 0, none⟩), .pointer (some ⟨sb, 0, none⟩), .pointer (some ⟨sb, 0, none⟩), .func (.func 77) #[] #[.pointer (some ⟨W.heap.size, 0, none⟩)], .int .i64 x.1, .pointer x.2, undef, undef, undef, undef], defers := [] })
    ?assign ?body ?done
  case ag =>
    have e1 : ∀ k, k < W.heap.size + 1 → W1.heap[k]? = V.heap[k]? := fun k hk => hc1.same k (by omega) (fun h => h)
    have := All1_goes W1 (fun k => k = W.heap.size ∨ k = sb ∨ k = fb) W.heap.size sb [] (oneSeg fb cb) none 0 0 1 (by simp [World.cell?, (e1 W.heap.size (by omega)).trans bV]) (.inl rfl) (fun k hk => by have := hc1.size; omega)
      ((hst.keep ((e1 sb (by omega)).trans (eV sb hsl)) ((e1 fb (by omega)).trans (eV fb hfl))).row (.inr (.inl rfl)) (.inr (.inr rfl))) (by simp) (by simp [oneSeg])
    simpa [flatF, oneSeg] using this
  case dj =>
    rcases hk with e | e | e
    · have := hO k hk2; omega
    · exact hDO k (.inr (.inl e)) hk2
    · exact hDO k (.inr (.inr (.inl e))) hk2
  case assign =>
    intro l2 x X K hK
    simp only [pairV, List.zip_toArray, List.foldl_toArray, List.zip_cons_cons, List.zip_nil_right, List.foldl_cons, List.foldl_nil, List.setIfInBounds_toArray, List.set_cons_zero, List.set_cons_succ]
    gi_wp2
    exact hK
  case body =>
    rintro l2 pre x O1 X hJ1 ⟨rest, hx⟩ hsub hcX
    obtain ⟨rfl, rfl⟩ : pre = [] ∧ x = ((0 : Int), some (⟨cb, 0, none⟩ : Addr)) := by
      cases pre with
      | nil => simp at hx; exact ⟨rfl, hx.1.symm⟩
      | cons y ys => simp at hx
    clear hx
    have hcc : CallAt X cb n := ((hcX.same cb (by omega) (hDO cb (.inr (.inr (.inr rfl))))).trans (eV cb hcl)).trans hc
    have hO1 : ¬ O1 cb := fun hh => by rcases hsub cb hh with g | g; exact hDO cb (.inr (.inr (.inr rfl))) g; omega
    have hyb : X.cell? ⟨w.heap.size, 0, none⟩ = some (.func (.yield l) #[] #[]) := by
      have e2 := (hcX.same w.heap.size (by omega) (fun h => by have := hO _ h; omega)).trans ((hcV.same w.heap.size (by omega) (fun h => h)).trans eb0)
      simp [World.cell?, e2]
    have HC := cells_goes X cb n hcc l J O1 hO1 hY hJ1
    clear hY hJ1 hcc
    gi_wp2_with (refine ⟨trivial, rfl, (CallsIn.inRound l2 HC).mono ?_⟩; clear HC; rintro e W2 ⟨rfl, fin⟩; dsimp only)
  case done =>
    rintro D2 O2 X hD2 hO2 hJ2 hc2 hs2 hk
    gi_wp2
    have hD1l : D1 < W.heap.size := (Array.getElem?_eq_some_iff.1 hk1).1
    have hD2l : D2 < X.heap.size := (Array.getElem?_eq_some_iff.1 hk).1
    have hkX : X.heap[D1]? = some (.deferred (some [])) := (hc2.same D1 (by omega) (fun h => by have := hO _ h; omega)).trans ((hcV.same D1 hD1l (fun h => h)).trans hk1)
    have hc4 : Ch (fun k => k = D2) X (X.putObj D2 (.deferred none)) := Ch.put _ _ _ rfl
    have hk' : (X.putObj D2 (.deferred none)).heap[D1]? = some (.deferred (some [])) := (hc4.same D1 (by omega) (by omega)).trans hkX
    have hc5 : Ch (fun k => k = D1) (X.putObj D2 (.deferred none)) ((X.putObj D2 (.deferred none)).putObj D1 (.deferred none)) := Ch.put _ _ _ rfl
    have hc6 : Ch (fun k => k = D1 ∨ k = D2) X ((X.putObj D2 (.deferred none)).putObj D1 (.deferred none)) := (hc4.mono (fun i h => .inr h)).trans hc5 (fun i h => .inl (.inl h))
    have hO2' : ¬ O2 D1 := fun h => by
      rcases hs2 _ h with g | g
      · have := hO _ g; omega
      · omega
    refine ⟨by simp, .inl ⟨_, _, rfl, run_takeDeferred hk, by simp, .inl ⟨_, _, rfl, run_takeDeferred hk', ?_⟩⟩⟩
    refine ⟨_, results_none rfl _ _ _, ⟨_, rfl⟩, O2, hJ.keep _ _ _ _ hJ2 hc6.eo hc6.size (fun k hk2 => hc6.same k ?_ (fun e => ?_)), ((hwV.mono (fun i h => h.elim)).trans hc2 (fun i h => .inl h)).trans hc6 (fun i e => .inr (by omega)), fun k h => (hs2 k h).imp_right (fun h => by omega)⟩
    · rcases hk2 with h | h
      · exact hJ.lt _ _ _ _ hJ2 h
      · have := hc2.size; omega
    · rcases hk2 with h | h
      · rcases e with e | e
        · exact hO2' (e ▸ h)
        · exact hO2 (e ▸ h)
      · omega
end Go.Proofs.YtpjbfdpblgjmfaaGreatDoor

namespace Go.Proofs.YtpjbfdpblgjmfaaGreatDoor
open Go.RowKit Go.Shelf
attribute [local go_sem] Oper.semAt_some

/-- A range whose rounds turn nothing. -/
theorem wp_rangeQ {α : Type} {P : Program} {g : Operand} {ps : Array Tmp} {assign body : Code} {Q : Exit → Act → World → Prop} {a : Act} {w : World}
    {gf : Nat} {bd lb : Array Value} (hg : a.eval g = .func (.func gf) bd lb) (eg : ∀ args w, (callFunc gf args).run P w = .ok (.enter gf args) w)
    {encs : α → Array Value} {xs : List α} {D : Nat → Prop} (hseq : ∀ W1, Ch (fun _ => False) w W1 → Goes P gf bd lb encs xs D W1) (hD : ∀ k, D k → k < w.heap.size) (hps : ∀ x, (encs x).size = ps.size) (a₁ : α → Act)
    (hassign : ∀ (l : Nat) (x : α) (W : World) (K : Act → World → Prop), K (a₁ x) W →
      assign.wpIn (Fence.wide.inRound l) 0 P (Exit.then K (fun _ _ _ => False)) { tmps := (ps.zip (encs x)).foldl (fun t (p, v) => t.setIfInBounds p v) a.tmps, defers := [] } W)
    (hbody : ∀ (l : Nat) (x : α) (W : World), x ∈ xs → Ch (fun _ => False) w W → body.wpIn (Fence.wide.inRound l) 0 P (fun e _ W' => e = .normal ∧ Ch (fun _ => False) W W') (a₁ x) W)
    (hdone : ∀ (D1 : Nat) (W : World), w.heap.size ≤ D1 → Ch (fun _ => False) w W → W.heap[D1]? = some (.deferred (some [])) →
      Q .normal { a with defers := { target := .collected D1, args := #[] } :: a.defers } W) :
    (Code.rangeFunc g ps assign body).wpIn Fence.wide 0 P Q a w :=
  wp_range hg eg hseq hD hps (O := fun _ => False) (fun _ _ h => h) (fun _ O _ => ∀ k, ¬ O k) ⟨fun _ _ _ _ h _ _ _ => h, fun _ _ _ k h hk => absurd hk (h k)⟩ (fun _ h => h) a₁ hassign
    (fun l pre x O1 W h1 ⟨rest, hx⟩ _ hc => wpIn_mono (hbody l x W (by rw [hx]; simp) hc) (fun e a3 W3 h => ⟨h.1, O1, h1, h.2.mono (fun _ h => h.elim), fun _ h => .inl h⟩))
    (fun D1 _ W h1 _ _ hc _ hk => hdone D1 W h1 hc hk)

set_option maxRecDepth 100000 in
set_option maxHeartbeats 4000000 in
theorem collect_zero (w : World) (mb hb sb fb cb : Nat) (n : Int) (hm : w.cell? ⟨mb, 6, none⟩ = some (.pointer (some ⟨sb, 0, none⟩))) (hst : StkAt w sb fb cb) (hc : CallAt w cb n) (v : Value) (hh : w.heap[hb]? = some (.cells #[v, .int .i64 0] 93 (0, 0))) :
    Calls Tryz.prog 19 #[.pointer (some ⟨hb, 0, none⟩), .func (.func 20) #[.pointer (some ⟨mb, 0, none⟩)] #[]] w fun e w' => e = .returned (.int .i64 0) ∧ Ch (fun k => k = hb) w w' := by
  have hml : mb < w.heap.size := block_lt_of_cell hm
  have hsl : sb < w.heap.size := (Array.getElem?_eq_some_iff.1 hst.s).1
  have hfl : fb < w.heap.size := (Array.getElem?_eq_some_iff.1 hst.f).1
  have hcl : cb < w.heap.size := (Array.getElem?_eq_some_iff.1 hc).1
  have hhl : hb < w.heap.size := (Array.getElem?_eq_some_iff.1 hh).1
  refine (callsIn_wide (n := 0)).1 ?_
  refine callsIn_of_wp_marks Tryz.func19 rfl trivial ?_ rfl
  simp only [Tryz.ntmps19, List.size_toArray, List.length_cons, List.length_nil, Nat.reduceAdd, Nat.reduceSub, Array.replicate_succ, Array.replicate_zero, List.push_toArray, List.append_toArray, List.nil_append, List.cons_append]
  have hnil : ∀ W : World, Sem.run Tryz.prog (binOp BinOp.eql 69 (.func (.func 20) #[.pointer (some ⟨mb, 0, none⟩)] #[]) .nilFunc) W = .ok (.bool false) W := fun W => by kernel_rfl
  gi_wp2
  clear hnil
  obtain ⟨W0, hW0⟩ : ∃ W0, w.alloc (.cells #[.pointer (some ⟨hb, 0, none⟩)] 48) = W0 := ⟨_, rfl⟩
  have hc0 : Ch (fun _ => False) w W0 := by rw [← hW0]; exact (Ch.refl _ w).al _
  have hs0 : W0.heap.size = w.heap.size + 1 := by rw [← hW0]; simp
  have b0 : W0.heap[w.heap.size]? = some (.cells #[.pointer (some ⟨hb, 0, none⟩)] 48 (0, 0)) := by rw [← hW0]; exact World.alloc_heap_new w _
  rw [hW0]
  clear hW0
  -- what a later world says of ours
  have hR : ∀ X, Ch (fun _ => False) W0 X → Goes Tryz.prog 20 #[.pointer (some ⟨mb, 0, none⟩)] #[] addrV [⟨cb, 0, none⟩, ⟨cb, 3, none⟩] (fun k => k = mb ∨ k = sb ∨ k = fb ∨ k = cb) X := fun X hX => by
    have e : ∀ k, k < w.heap.size → X.heap[k]? = w.heap[k]? := fun k hk => (hX.same k (by omega) (fun h => h)).trans (hc0.same k hk (fun h => h))
    exact roots_goes X mb sb fb cb n (by rw [World.cell?_of_block (w := w) (e mb hml)]; exact hm) (hst.keep (e sb hsl) (e fb hfl)) ((e cb hcl).trans hc)
  have hX0 : ∀ X, Ch (fun _ => False) W0 X → X.cell? ⟨w.heap.size, 0, none⟩ = some (.pointer (some ⟨hb, 0, none⟩)) := fun X hX => by
    have e := (hX.same w.heap.size (by omega) (fun h => h)).trans b0
    simp [World.cell?, e]
  have hXc : ∀ X, Ch (fun _ => False) W0 X → ∀ x ∈ ([⟨cb, 0, none⟩, ⟨cb, 3, none⟩] : List Addr), ∃ o, x = ⟨cb, o, none⟩ ∧ X.cell? ⟨cb, o, none⟩ = some (.bool false) := fun X hX x hx => by
    have e : CallAt X cb n := ((hX.same cb (by omega) (fun h => h)).trans (hc0.same cb hcl (fun h => h))).trans hc
    unfold CallAt at e
    rcases List.mem_cons.1 hx with h | h
    · exact ⟨0, h, by simp [World.cell?, e]⟩
    · exact ⟨3, by simpa using h, by simp [World.cell?, e]⟩
  have hXh : ∀ X, Ch (fun _ => False) W0 X → X.heap[hb]? = some (.cells #[v, .int .i64 0] 93 (0, 0)) := fun X hX => ((hX.same hb (by omega) (fun h => h)).trans (hc0.same hb hhl (fun h => h))).trans hh
  clear hm hst hc hh b0
  refine wp_rangeQ (gf := 20) (bd := #[.pointer (some ⟨mb, 0, none⟩)]) (lb := #[]) (encs := addrV) rfl (enters_of Tryz.func20 (by kernel_rfl) rfl) hR (fun k hk => by omega) (fun _ => rfl)
    (fun x => { tmps := #[.pointer (some ⟨hb, 0, none⟩), .func (.func 20) #[.pointer (some ⟨mb, 0, none⟩)] #[], .pointer (some ⟨w.heap.size, 0, none⟩), undef, .int .i64 0, .pointer (some x), undef, undef, .func (.func 20) #[.pointer (some ⟨mb, 0, none⟩)] #[], .bool false, .func (.func 20) #[.pointer (some ⟨mb, 0, none⟩)] #[], .pointer (some x), undef, undef, undef, undef, undef, undef, undef, undef, undef, undef, undef, undef, undef, undef, undef, undef, undef, undef, undef], defers := [] }) ?assign ?body ?_
  case assign =>
    intro l2 x X K hK
    simp only [addrV, List.zip_toArray, List.foldl_toArray, List.zip_cons_cons, List.zip_nil_right, List.foldl_cons, List.foldl_nil, List.setIfInBounds_toArray, List.set_cons_zero, List.set_cons_succ]
    gi_wp2
    exact hK
  case body =>
    intro l2 x X hx hX
    obtain ⟨o, rfl, ho⟩ := hXc X hX x hx
    have h0 := hX0 X hX
    have HC := reach_no X (.pointer (some ⟨hb, 0, none⟩)) cb o ho
    clear hR hX0 hXc hXh hX
    gi_wp2_with (refine ⟨trivial, rfl, (CallsIn.inRound l2 (callsIn_wide.2 HC)).mono ?_⟩; clear HC; rintro e W2 ⟨rfl, rfl⟩; dsimp only)
    exact Ch.refl _ _
  intro D1 W1 hD1 hc1 hk1
  have h0 := hX0 W1 hc1
  have hh1 := hXh W1 hc1
  have hu1 : W1.cell? ⟨hb, 1, none⟩ = some (.int .i64 0) := by simp [World.cell?, hh1]
  have HS := settle_zero W1 hb hu1
  gi_wp2_with (first
    | (refine ⟨trivial, rfl, (callsIn_wide.2 HS).mono ?_⟩; clear HS; rintro e W2 ⟨rfl, hc2⟩; dsimp only
       have hcA := hc1.trans hc2 (fun _ h => .inl h)
       have hA0 := hX0 W2 hcA
       have hAu : W2.cell? ⟨hb, 1, none⟩ = some (.int .i64 0) := by simp [World.cell?, hXh W2 hcA]
       have HR := refer_zero W2 hb hAu)
    | (refine ⟨trivial, rfl, (callsIn_wide.2 HR).mono ?_⟩; clear HR; rintro e W3 ⟨rfl, hc3⟩; dsimp only))
  have hcB := hcA.trans hc3 (fun _ h => .inl h)
  have h13 : Ch (fun _ => False) W1 W3 := hc2.trans hc3 (fun _ h => .inl h)
  clear h0 hh1 hu1 hA0 hAu hcA hc2 hc3
  refine wp_rangeQ (gf := 20) (bd := #[.pointer (some ⟨mb, 0, none⟩)]) (lb := #[]) (encs := addrV) rfl (enters_of Tryz.func20 (by kernel_rfl) rfl) (fun X hX => hR X (hcB.trans hX (fun _ h => .inl h))) (fun k hk => by have := hcB.size; omega) (fun _ => rfl)
    (fun x => { tmps := #[.pointer (some ⟨hb, 0, none⟩), .func (.func 20) #[.pointer (some ⟨mb, 0, none⟩)] #[], .pointer (some ⟨w.heap.size, 0, none⟩), undef, .int .i64 0, undef, .int .i64 0, .pointer (some x), .func (.func 20) #[.pointer (some ⟨mb, 0, none⟩)] #[], .bool false, .func (.func 20) #[.pointer (some ⟨mb, 0, none⟩)] #[], undef, undef, undef, undef, .pointer (some ⟨hb, 0, none⟩), .int .i64 0, .pointer (some ⟨hb, 0, none⟩), .tuple #[], .func (.func 20) #[.pointer (some ⟨mb, 0, none⟩)] #[], .pointer (some x), undef, undef, undef, undef, undef, undef, undef, undef, undef, undef], defers := [] }) ?assign ?body ?_
  case assign =>
    intro l2 x X K hK
    simp only [addrV, List.zip_toArray, List.foldl_toArray, List.zip_cons_cons, List.zip_nil_right, List.foldl_cons, List.foldl_nil, List.setIfInBounds_toArray, List.set_cons_zero, List.set_cons_succ]
    gi_wp2
    exact hK
  case body =>
    intro l2 x X hx hX
    have hX' := hcB.trans hX (fun _ h => .inl h)
    obtain ⟨o, rfl, ho⟩ := hXc X hX' x hx
    have h0 := hX0 X hX'
    have HC := follow_no X (.pointer (some ⟨hb, 0, none⟩)) cb o ho
    clear hR hX0 hXc hXh hX hX'
    gi_wp2_with (refine ⟨trivial, rfl, (CallsIn.inRound l2 (callsIn_wide.2 HC)).mono ?_⟩; clear HC; rintro e W2 ⟨rfl, rfl⟩; dsimp only)
    exact Ch.refl _ _
  intro D2 W4 hD2 hc4 hk2
  have hcC := hcB.trans hc4 (fun _ h => .inl h)
  have h0 := hX0 W4 hcC
  have hu4 : W4.cell? ⟨hb, 1, none⟩ = some (.int .i64 0) := by simp [World.cell?, hXh W4 hcC]
  have HS := slide_zero W4 hb hu4
  gi_wp2_with (refine ⟨trivial, rfl, (callsIn_wide.2 HS).mono ?_⟩; clear HS; rintro e W5 ⟨rfl, hc5⟩; dsimp only
               have hcD := hcC.trans hc5 (fun _ h => .inl h)
               have hD0 := hX0 W5 hcD
               have hhD := hXh W5 hcD
               have hu5 : W5.cell? ⟨hb, 1, none⟩ = some (.int .i64 0) := by simp [World.cell?, hhD]
               have hf5 : W5.frozen? ⟨hb, 1, none⟩ = false := by simp [World.frozen?, hhD])
  have hz1 := hc1.size
  have hz3 := h13.size
  have hz4 := hc4.size
  have hz5 := hc5.size
  have hD1l : D1 < W1.heap.size := (Array.getElem?_eq_some_iff.1 hk1).1
  have hD2l : D2 < W4.heap.size := (Array.getElem?_eq_some_iff.1 hk2).1
  have k1 : W5.heap[D1]? = some (.deferred (some [])) := (hc5.same D1 (by omega) (fun h => h)).trans ((hc4.same D1 (by omega) (fun h => h)).trans ((h13.same D1 hD1l (fun h => h)).trans hk1))
  have k2 : W5.heap[D2]? = some (.deferred (some [])) := (hc5.same D2 hD2l (fun h => h)).trans hk2
  have hcY : Ch (fun k => k = hb) W5 (W5.setCell ⟨hb, 1, none⟩ (.int .i64 0)) := Ch.setCell _ _ _ rfl
  have hwY : Ch (fun k => k = hb) w (W5.setCell ⟨hb, 1, none⟩ (.int .i64 0)) := ((hc0.trans hcD (fun _ h => .inl h)).mono (fun _ h => h.elim)).trans hcY (fun _ h => .inl h)
  have y1 := (hcY.same D1 (by omega) (by omega)).trans k1
  have y2 := (hcY.same D2 (by omega) (by omega)).trans k2
  have hzY := hcY.size
  generalize W5.setCell ⟨hb, 1, none⟩ (.int .i64 0) = Y at hwY y1 y2 hzY ⊢
  have hc6 : Ch (fun k => k = D2) Y (Y.putObj D2 (.deferred none)) := Ch.put _ _ _ rfl
  have y1' := (hc6.same D1 (by omega) (by omega)).trans y1
  have hc7 : Ch (fun k => k = D1) (Y.putObj D2 (.deferred none)) ((Y.putObj D2 (.deferred none)).putObj D1 (.deferred none)) := Ch.put _ _ _ rfl
  refine ⟨by simp, .inl ⟨_, _, rfl, run_takeDeferred y2, by simp, .inl ⟨_, _, rfl, run_takeDeferred y1', ?_⟩⟩⟩
  refine ⟨_, results_tmp rfl _ _ _, rfl, (hwY.trans hc6 (fun i h => .inr (by omega))).trans hc7 (fun i h => .inr (by omega))⟩

theorem chnn {w w' : World} (h : Ch (fun _ => False) w w') {a : Addr} {v : Value} (ha : w.heap.size ≤ a.block) : Ch (fun _ => False) w (w'.setCell a v) :=
  h.trans (Ch.setCell (O := fun k => k = a.block) w' a v rfl) (fun k hk => .inr (by omega))
/-- A machine that has just been loaded. -/
structure MF (w : World) (mb hb sb fb cb : Nat) : Prop where
  m : ∃ sh vo vh vf n bare, w.heap[mb]? = some (.cells #[.string sh, vo, vh, vf, .int .i64 n, .pointer (some ⟨hb, 0, none⟩), .pointer (some ⟨sb, 0, none⟩), bare, .int .i64 0, .string ⟨#[]⟩, .string ⟨#[]⟩, .int .i64 0] 58 (0, 0))
  h : ∃ v, w.heap[hb]? = some (.cells #[v, .int .i64 0] 93 (0, 0))
  s : StkAt w sb fb cb
  c : ∃ n, CallAt w cb n
theorem MF.keep {w w' : World} {mb hb sb fb cb : Nat} (h : MF w mb hb sb fb cb) (hc : Ch (fun _ => False) w w') : MF w' mb hb sb fb cb := by
  have e : ∀ k o, w.heap[k]? = some o → w'.heap[k]? = w.heap[k]? := fun k o ho => hc.same k (Array.getElem?_eq_some_iff.1 ho).1 (fun h => h)
  obtain ⟨⟨sh, vo, vh, vf, n, bare, hm⟩, ⟨v, hh⟩, hs, ⟨n2, hcc⟩⟩ := h
  exact ⟨⟨sh, vo, vh, vf, n, bare, (e _ _ hm).trans hm⟩, ⟨v, (e _ _ hh).trans hh⟩, hs.keep (e _ _ hs.s) (e _ _ hs.f), ⟨n2, (e _ _ hcc).trans hcc⟩⟩

set_option maxRecDepth 100000 in
set_option maxHeartbeats 4000000 in
theorem live_zero (w : World) (mb hb sb fb cb : Nat) (h : MF w mb hb sb fb cb) :
    Calls Tryz.prog 7 #[.pointer (some ⟨mb, 0, none⟩)] w fun e w' => e = .returned (.int .i64 0) ∧ Ch (fun k => k = hb) w w' := by
  obtain ⟨⟨sh, vo, vh, vf, n, bare, hm⟩, ⟨v, hh⟩, hs, ⟨n2, hcc⟩⟩ := h
  have m5 : w.cell? ⟨mb, 5, none⟩ = some (.pointer (some ⟨hb, 0, none⟩)) := by simp [World.cell?, hm]
  have m6 : w.cell? ⟨mb, 6, none⟩ = some (.pointer (some ⟨sb, 0, none⟩)) := by simp [World.cell?, hm]
  have HC := collect_zero w mb hb sb fb cb n2 m6 hs hcc v hh
  clear hm hh hs hcc
  go_enter Tryz.func7, Tryz.ntmps7
  go_wp2_with (first
    | (go_at_call 19; refine HC.mono ?_; clear HC; rintro e w2 ⟨rfl, h2⟩; replace h2 := hid h2)
    | go_in)
  go_ret
  exact ⟨rfl, h2.out⟩
set_option maxRecDepth 100000 in
set_option maxHeartbeats 4000000 in
theorem tell_zero (w : World) (mb hb sb fb cb : Nat) (h : MF w mb hb sb fb cb) :
    Calls Tryz.prog 6 #[.pointer (some ⟨mb, 0, none⟩)] w fun e w' => e = .returned (.agg #[.int .i64 0, .string ⟨#[]⟩, .string ⟨#[]⟩, .int .i64 0]) ∧ Ch (fun _ => False) w w' := by
  obtain ⟨⟨sh, vo, vh, vf, n, bare, hm⟩, ⟨v, hh⟩, hs, ⟨n2, hcc⟩⟩ := h
  have hml : mb < w.heap.size := (Array.getElem?_eq_some_iff.1 hm).1
  have hm' := blk_alloc (x := .cells #[.int .i64 0, .string ⟨#[]⟩, .string ⟨#[]⟩, .int .i64 0] 32) hm
  obtain ⟨V, hV⟩ : ∃ V, w.alloc (.cells #[.int .i64 0, .string ⟨#[]⟩, .string ⟨#[]⟩, .int .i64 0] 32) = V := ⟨_, rfl⟩
  have hcV : Ch (fun _ => False) w V := by rw [← hV]; exact (Ch.refl _ w).al _
  have hbV : V.heap[w.heap.size]? = some (.cells #[.int .i64 0, .string ⟨#[]⟩, .string ⟨#[]⟩, .int .i64 0] 32 (0, 0)) := by rw [← hV]; exact World.alloc_heap_new w _
  rw [hV] at hm'
  have m5 : V.cell? ⟨mb, 5, none⟩ = some (.pointer (some ⟨hb, 0, none⟩)) := by simp [World.cell?, hm']
  have m8 : V.cell? ⟨mb, 8, none⟩ = some (.int .i64 0) := by simp [World.cell?, hm']
  have m9 : V.cell? ⟨mb, 9, none⟩ = some (.string ⟨#[]⟩) := by simp [World.cell?, hm']
  have m10 : V.cell? ⟨mb, 10, none⟩ = some (.string ⟨#[]⟩) := by simp [World.cell?, hm']
  have m11 : V.cell? ⟨mb, 11, none⟩ = some (.int .i64 0) := by simp [World.cell?, hm']
  have v0 : V.cell? ⟨w.heap.size, 0, none⟩ = some (.int .i64 0) := by simp [World.cell?, hbV]
  have v1 : V.cell? ⟨w.heap.size, 1, none⟩ = some (.string ⟨#[]⟩) := by simp [World.cell?, hbV]
  have v2 : V.cell? ⟨w.heap.size, 2, none⟩ = some (.string ⟨#[]⟩) := by simp [World.cell?, hbV]
  have v3 : V.cell? ⟨w.heap.size, 3, none⟩ = some (.int .i64 0) := by simp [World.cell?, hbV]
  have vf : ∀ i, V.frozen? ⟨w.heap.size, i, none⟩ = false := fun i => by simp [World.frozen?, hbV]
  have HV := hid hbV
  have HC := hid hcV
  clear hm hm' hh hs hcc hbV hcV
  go_enter Tryz.func6, Tryz.ntmps6
  go_upto_region 1 with (fail)
  clear hV
  go_wp2_with go_in
  refine bodyPost_ret (v := .agg #[.int .i64 0, .string ⟨#[]⟩, .string ⟨#[]⟩, .int .i64 0]) ?_ rfl ⟨rfl, chnn (chnn (chnn (chnn HC.out (by simp)) (by simp)) (by simp)) (by simp)⟩
  have hB := blk_set (i := 3) (v := .int .i64 0) (blk_set (i := 2) (v := .string ⟨#[]⟩) (blk_set (i := 1) (v := .string ⟨#[]⟩) (blk_set (i := 0) (v := .int .i64 0) HV.out)))
  generalize (((V.setCell ⟨w.heap.size, 0, none⟩ (.int .i64 0)).setCell ⟨w.heap.size, 1, none⟩ (.string ⟨#[]⟩)).setCell ⟨w.heap.size, 2, none⟩ (.string ⟨#[]⟩)).setCell ⟨w.heap.size, 3, none⟩ (.int .i64 0) = Y at hB ⊢
  have y0 : Y.cell? ⟨w.heap.size, 0, none⟩ = some (.int .i64 0) := by simp [World.cell?, hB]
  have y1 : Y.cell? ⟨w.heap.size, 1, none⟩ = some (.string ⟨#[]⟩) := by simp [World.cell?, hB]
  have y2 : Y.cell? ⟨w.heap.size, 2, none⟩ = some (.string ⟨#[]⟩) := by simp [World.cell?, hB]
  have y3 : Y.cell? ⟨w.heap.size, 3, none⟩ = some (.int .i64 0) := by simp [World.cell?, hB]
  simp [results, Tryz.results6, go_sem, y0, y1, y2, y3]
end Go.Proofs.YtpjbfdpblgjmfaaGreatDoor
