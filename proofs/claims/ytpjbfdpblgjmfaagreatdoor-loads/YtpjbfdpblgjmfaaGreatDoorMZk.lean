/-
  The program's stack in memory: New, Push, Top, Pop.
  Append as a step; the program's Open.
  The program's Put.
  slices.Delete at the end of a row; Put of none.
-/
import Derived.Test.YtpjbfdpblgjmfaaGreatDoorMZ
import Derived.RangeFuncBox
import Derived.Deep.RegionLaw
import Derived.Laws.CopyRow
set_option linter.unusedVariables false
set_option linter.unusedSimpArgs false
namespace Go.Proofs.YtpjbfdpblgjmfaaGreatDoor
open Go.RowKit

def cntN (L : List Sn) : Nat := (L.map (fun x => x.s.l.length)).sum
/-- The blocks of a row's own. -/
def own (b : Nat) (v : Value) : Nat → Prop := fun k => k = b ∨ v.ownBlock = some k
def rowCells (v : Value) (S : List Sn) (z : Sn) : Array Value := #[v, .pointer z.p, .int .i64 z.s.l.length, .pointer z.s.tag, .bool z.s.has, .int .i64 (cntN (S ++ [z]) : Nat)]
/-- A row of segments S and z in the block b of type T; frames lie in D. -/
structure StM (D : Nat → Prop) (w : World) (b : Nat) (T : TypeId) (v : Value) (S : List Sn) (z : Sn) : Prop where
  blk : w.heap[b]? = some (.cells (rowCells v S z) T (0, 0))
  row : w.ownsRow 0 97 4 v S.length (S.flatMap Sn.cells)
  ch : ∀ x ∈ S ++ [z], Chain D w x.p x.s.l.reverse
  dis : ∀ k, own b v k → ¬ D k
  ne : v.ownBlock ≠ some b
theorem row_cells {w : World} {b : Nat} {T : TypeId} {v : Value} {S : List Sn} {z : Sn} (hb : w.heap[b]? = some (.cells (rowCells v S z) T (0, 0))) :
    w.cell? ⟨b, 0, none⟩ = some v ∧ w.cell? ⟨b, 1, none⟩ = some (.pointer z.p) ∧ w.cell? ⟨b, 2, none⟩ = some (.int .i64 z.s.l.length) ∧ w.cell? ⟨b, 3, none⟩ = some (.pointer z.s.tag) ∧ w.cell? ⟨b, 4, none⟩ = some (.bool z.s.has) ∧ w.cell? ⟨b, 5, none⟩ = some (.int .i64 (cntN (S ++ [z]) : Nat)) ∧ ∀ i, w.frozen? ⟨b, i, none⟩ = false := by
  unfold rowCells at hb
  refine ⟨?_, ?_, ?_, ?_, ?_, ?_, fun i => ?_⟩ <;> simp [World.cell?, World.frozen?, hb]
theorem StM.cells {D : Nat → Prop} {w : World} {b : Nat} {T : TypeId} {v : Value} {S : List Sn} {z : Sn} (h : StM D w b T v S z) :
    w.cell? ⟨b, 0, none⟩ = some v ∧ w.cell? ⟨b, 1, none⟩ = some (.pointer z.p) ∧ w.cell? ⟨b, 2, none⟩ = some (.int .i64 z.s.l.length) ∧ w.cell? ⟨b, 3, none⟩ = some (.pointer z.s.tag) ∧ w.cell? ⟨b, 4, none⟩ = some (.bool z.s.has) ∧ w.cell? ⟨b, 5, none⟩ = some (.int .i64 (cntN (S ++ [z]) : Nat)) ∧ ∀ i, w.frozen? ⟨b, i, none⟩ = false := by
  have hb := h.blk
  unfold rowCells at hb
  refine ⟨?_, ?_, ?_, ?_, ?_, ?_, fun i => ?_⟩ <;> simp [World.cell?, World.frozen?, hb]
theorem StM.lt {D : Nat → Prop} {w : World} {b : Nat} {T : TypeId} {v : Value} {S : List Sn} {z : Sn} (h : StM D w b T v S z) : b < w.heap.size := (Array.getElem?_eq_some_iff.1 h.blk).1
theorem StM.keep {D D' : Nat → Prop} {w w' : World} {b : Nat} {T : TypeId} {v : Value} {S : List Sn} {z : Sn} (h : StM D w b T v S z) (hD : ∀ k, D k → D' k) (hd : ∀ k, own b v k → ¬ D' k) (hs : ∀ k, own b v k ∨ D k → w'.heap[k]? = w.heap[k]?) : StM D' w' b T v S z :=
  ⟨(hs b (.inl (.inl rfl))).trans h.blk, ownsRow_keep h.row (fun k hk => hs k (.inl (.inr hk))), fun x hx => (h.ch x hx).keep hD (fun k hk => hs k (.inr hk)), hd, h.ne⟩
set_option maxHeartbeats 1000000 in
theorem new_any (w : World) :
    Calls Tryz.prog 11 #[] w fun e w' => e = .returned (.pointer (some ⟨w.heap.size, 0, none⟩)) ∧ w' = w.alloc (.cells #[.slice none 0 0, .pointer none, .int .i64 0, .pointer none, .bool false, .int .i64 0] 101) := by
  go_enter Tryz.func11, Tryz.ntmps11
  go_wp2
  go_ret
  exact ⟨rfl, rfl⟩

set_option maxHeartbeats 1000000 in
theorem put_any (w : World) (c o : Nat) (p : Option Addr) (n : Nat) (f : Option Addr) (hn : n < 1000000000000) (h0 : w.cell? ⟨c, o, none⟩ = some (.pointer p)) (h1 : w.cell? ⟨c, o + 1, none⟩ = some (.int .i64 n))
    (f0 : w.frozen? ⟨c, o, none⟩ = false) (f1 : w.frozen? ⟨c, o + 1, none⟩ = false) :
    Calls Tryz.prog 29 #[.pointer (some ⟨c, o, none⟩), .pointer f] w fun e w' => e = .returned (.tuple #[]) ∧
      w' = ((w.setCell ⟨c, o, none⟩ (.pointer (some ⟨w.heap.size, 0, none⟩))).setCell ⟨c, o + 1, none⟩ (.int .i64 ((n : Int) + 1))).alloc (.cells #[.pointer f, .pointer p] 173) := by
  have hcl : c < w.heap.size := block_lt_of_cell h0
  have hw : IntKind.i64.wrap ((n : Int) + 1) = (n : Int) + 1 := by rw [IntWalk.i64_in _ (by omega)]
  go_enter Tryz.func29, Tryz.ntmps29
  go_wp2
  go_end0
  exact ⟨rfl, rfl⟩

theorem StM.own_lt {D : Nat → Prop} {w : World} {b : Nat} {T : TypeId} {v : Value} {S : List Sn} {z : Sn} (h : StM D w b T v S z) {k : Nat} (hk : own b v k) : k < w.heap.size := by
  rcases hk with rfl | hk
  · exact h.lt
  · exact ownsRow_lt h.row hk
/-- The innermost segment and the count are turned alone. -/
theorem StM.upd {D D' : Nat → Prop} {w w' : World} {b : Nat} {T : TypeId} {v : Value} {S : List Sn} {z z' : Sn} (h : StM D w b T v S z) (hc : Ch (fun k => k = b) w w') (hDl : ∀ k, D k → k < w.heap.size) (hD : ∀ k, D k → D' k) (hnew : More w D D')
    (hb : w'.heap[b]? = some (.cells (rowCells v S z') T (0, 0))) (hz : Chain D' w' z'.p z'.s.l.reverse) : StM D' w' b T v S z' := by
  have hdb : ∀ k, D k → k ≠ b := fun k hk e => h.dis k (.inl e) hk
  refine ⟨hb, ownsRow_keep h.row (fun k hk => hc.same k (h.own_lt (.inr hk)) (fun e => h.ne (by rw [hk, e]))), fun x hx => ?_, fun k hk hk2 => ?_, h.ne⟩
  · rcases List.mem_append.1 hx with hx | hx
    · exact (h.ch x (List.mem_append.2 (.inl hx))).keep hD (fun k hk => hc.same k (hDl k hk) (hdb k hk))
    · obtain rfl : x = z' := by simpa using hx
      exact hz
  · rcases hnew k hk2 with h2 | h2
    · exact h.dis k hk h2
    · have := h.own_lt hk; omega
theorem cntN_push (S : List Sn) (z : Sn) (p : Option Addr) (f : Option Addr) : cntN (S ++ [⟨p, z.s.has, z.s.tag, z.s.l ++ [f]⟩]) = cntN (S ++ [z]) + 1 := by
  simp [cntN]; omega

set_option maxHeartbeats 1000000 in
theorem push_any {D : Nat → Prop} (w : World) (b : Nat) (v : Value) (S : List Sn) (z : Sn) (f : Option Addr) (hDl : ∀ k, D k → k < w.heap.size) (h : StM D w b 101 v S z) (hn : cntN (S ++ [z]) < 1000000000) :
    Calls Tryz.prog 13 #[.pointer (some ⟨b, 0, none⟩), .pointer f] w fun e w' => e = .returned (.tuple #[]) ∧
      StM (fun k => D k ∨ k = w.heap.size) w' b 101 v S ⟨some ⟨w.heap.size, 0, none⟩, z.s.has, z.s.tag, z.s.l ++ [f]⟩ ∧ Ch (fun k => k = b) w w' := by
  obtain ⟨c0, c1, c2, c3, c4, c5, hf⟩ := h.cells
  have hbl := h.lt
  have hzl : z.s.l.length < 1000000000 := by simp [cntN] at hn; omega
  have hw : IntKind.i64.wrap (((cntN (S ++ [z]) : Nat) : Int) + 1) = ((cntN (S ++ [z]) : Nat) : Int) + 1 := by rw [IntWalk.i64_in _ (by omega)]
  have hp := put_any w b 1 z.p z.s.l.length f (by omega) c1 c2 (hf 1) (hf 2)
  obtain ⟨N, hN⟩ : ∃ N, cntN (S ++ [z]) = N := ⟨_, rfl⟩
  rw [hN] at c5 hw hn
  go_enter Tryz.func13, Tryz.ntmps13
  go_wp2_with (go_at_call 29; refine hp.mono ?_; clear hp; rintro e w' ⟨rfl, rfl⟩; dsimp only)
  go_end0
  have hb := h.blk
  have hc : Ch (fun k => k = b) w (((((w.setCell ⟨b, 1, none⟩ (.pointer (some ⟨w.heap.size, 0, none⟩))).setCell ⟨b, 2, none⟩ (.int .i64 ((z.s.l.length : Int) + 1))).setCell ⟨b, 5, none⟩ (.int .i64 ((N : Int) + 1)))).alloc (.cells #[.pointer f, .pointer z.p] 173)) :=
    ((((Ch.refl (fun k => k = b) w).set (a := ⟨b, 1, none⟩) rfl _).set (a := ⟨b, 2, none⟩) rfl _).set (a := ⟨b, 5, none⟩) rfl _).al _
  refine ⟨rfl, h.upd hc hDl (fun k hk => .inl hk) (fun k hk => hk.imp_right (fun e => by omega)) ?_ ?_, hc⟩
  · refine blk_alloc ?_
    rw [blk_set (blk_set (blk_set hb))]
    simp [rowCells, cntN_push, hN]
  · rw [List.reverse_append]
    refine ⟨w.heap.size, z.p, rfl, .inr rfl, ?_, (h.ch z (by simp)).keep (fun k hk => .inl hk) (fun k hk => hc.same k (hDl k hk) (fun e => h.dis k (.inl e) hk))⟩
    have := World.alloc_heap_new ((((w.setCell ⟨b, 1, none⟩ (.pointer (some ⟨w.heap.size, 0, none⟩))).setCell ⟨b, 2, none⟩ (.int .i64 ((z.s.l.length : Int) + 1))).setCell ⟨b, 5, none⟩ (.int .i64 ((N : Int) + 1)))) (.cells #[.pointer f, .pointer z.p] 173)
    simpa using this

end Go.Proofs.YtpjbfdpblgjmfaaGreatDoor

namespace Go.Proofs.YtpjbfdpblgjmfaaGreatDoor
open Go.RowKit

theorem Tryz.infoS : (Tryz.prog.info? 97).map (fun i => (i.zero, i.size, i.bytes)) = some (some (.agg #[.pointer none, .int .i64 0, .pointer none, .bool false]), 4, 32) := by kernel_rfl
theorem flat_len (S : List Sn) : (S.flatMap Sn.cells).length = S.length * 4 := by
  induction S with
  | nil => rfl
  | cons s r ih => simp [List.flatMap_cons, ih, Sn.cells]; omega

/-- The row of the outer segments is another one: who says so of a later world. -/
theorem StM.rerow {D : Nat → Prop} {w w1 w2 : World} {b : Nat} {T : TypeId} {v v' : Value} {S S' : List Sn} {z z' : Sn} (h : StM D w b T v S z) (hDl : ∀ k, D k → k < w.heap.size) (hc1 : Ch (fun k => v.ownBlock = some k) w w1)
    (hrow1 : w1.ownsRow 0 97 4 v' S'.length (S'.flatMap Sn.cells)) (hm : ∀ k, v'.ownBlock = some k → v.ownBlock = some k ∨ w.heap.size ≤ k) (hc2 : Ch (fun k => k = b) w1 w2)
    (hb2 : w2.heap[b]? = some (.cells (rowCells v' S' z') T (0, 0))) (hch : ∀ x ∈ S' ++ [z'], Chain D w x.p x.s.l.reverse) :
    StM D w2 b T v' S' z' ∧ Ch (own b v) w w2 ∧ More w (own b v) (own b v') := by
  have hne' : v'.ownBlock ≠ some b := fun e => by
    rcases hm b e with h1 | h1
    · exact h.ne h1
    · have := h.lt; omega
  have hc : Ch (own b v) w w2 := (hc1.mono (fun k hk => .inr hk)).trans hc2 (fun k hk => .inl (.inl hk))
  refine ⟨⟨hb2, ownsRow_keep hrow1 (fun k hk => hc2.same k (ownsRow_lt hrow1 hk) (fun e => hne' (by rw [hk, e]))), fun x hx => (hch x hx).keep (fun _ h => h) (fun k hk => hc.same k (hDl k hk) (fun ho => h.dis k ho hk)), fun k hk hD => ?_, hne'⟩, hc, fun k hk => ?_⟩
  · rcases hk with hk | hk
    · exact h.dis k (.inl hk) hD
    · rcases hm k hk with h1 | h1
      · exact h.dis k (.inr h1) hD
      · have := hDl k hD; omega
  · rcases hk with hk | hk
    · exact .inl (.inl hk)
    · exact (hm k hk).imp_left .inr

set_option maxHeartbeats 4000000 in
theorem open_any {D : Nat → Prop} (w : World) (b : Nat) (v : Value) (S : List Sn) (z : Sn) (tag : Option Addr) (hDl : ∀ k, D k → k < w.heap.size) (h : StM D w b 101 v S z) (hn : S.length < 1000000000) :
    Calls Tryz.prog 26 #[.pointer (some ⟨b, 0, none⟩), .pointer tag] w fun e w' => e = .returned (.tuple #[]) ∧
      ∃ v', StM D w' b 101 v' (S ++ [z]) ⟨none, true, tag, []⟩ ∧ Ch (own b v) w w' ∧ More w (own b v) (own b v') := by
  obtain ⟨c0, c1, c2, c3, c4, c5, hf⟩ := h.cells
  have hbl := h.lt
  have hrow := h.row
  obtain ⟨a, cap, rfl, ha, hcap⟩ := row_slice h.row
  have hmx : Tryz.prog.follows .mixedOrders = true := by kernel_rfl
  go_enter Tryz.func26, Tryz.ntmps26
  go_upto_region 0 with (fail)
  have hAc : ∀ j u, z.cells[j]? = some u → ((w.alloc (.cells #[.pointer z.p, .int .i64 z.s.l.length, .pointer z.s.tag, .bool z.s.has] 97)).drew).cell? ((⟨w.heap.size, 0, none⟩ : Addr).add j) = some u := by
    intro j u hj
    have hb := World.alloc_heap_new w (.cells #[.pointer z.p, .int .i64 z.s.l.length, .pointer z.s.tag, .bool z.s.has] 97)
    rw [show (⟨w.heap.size, 0, none⟩ : Addr).add j = ⟨w.heap.size, j, none⟩ by simp [Addr.add]; omega]
    show (w.alloc (.cells #[.pointer z.p, .int .i64 z.s.l.length, .pointer z.s.tag, .bool z.s.has] 97)).cell? ⟨w.heap.size, j, none⟩ = some u
    simp only [World.cell?, hb]
    simpa [Sn.cells] using hj
  have hne := h.ne
  have hr1 : (w.alloc (.cells #[.pointer z.p, .int .i64 z.s.l.length, .pointer z.s.tag, .bool z.s.has] 97)).drew.ownsRow 0 97 4 (.slice a S.length cap) S.length (S.flatMap Sn.cells) := ownsRow_keep hrow (fun k hk => (Ch.alloc (fun _ => False) w _).same k (ownsRow_lt hrow hk) (fun h => h))
  have hr2 : ∀ u ∈ z.cells, u.oneCell' = true := by intro u hu; simp [Sn.cells] at hu; rcases hu with rfl | rfl | rfl | rfl <;> rfl
  have hb2 : (w.alloc (.cells #[.pointer z.p, .int .i64 z.s.l.length, .pointer z.s.tag, .bool z.s.has] 97)).drew.heap[b]? = some (.cells (rowCells (.slice a S.length cap) S z) 101 (0, 0)) := blk_alloc h.blk
  go_region_law (refine step_append rfl (.tmp 9) (.tmp 15) 94 rfl 97 (.agg #[.pointer none, .int .i64 0, .pointer none, .bool false]) 4 32 Tryz.underlying94 Tryz.infoS rfl (by decide) (.slice a S.length cap) S.length (S.flatMap Sn.cells) (by simp [Act.eval]) (by exact hr1) ⟨w.heap.size, 0, none⟩ 1 1 z.cells (by simp [Act.eval]) rfl (by exact hAc) hr2 (by unfold maxLen; omega) (by omega) ?_; intro v' w1 hrow1 hgrow hblk; obtain ⟨g', cap', rfl⟩ := ownsRow_succ hrow1; have hb3 := (hgrow.block b (by simp; omega) (fun e => hne e.symm)).trans hb2; obtain ⟨d0, d1, d2, d3, d4, d5, df⟩ := row_cells hb3)
  all_goals
    clear hr1 hb2 hAc hr2 c0 c1 c2 c3 c4 c5 hf
    go_wp2
    go_end0
    refine ⟨rfl, .slice (some ⟨g', 0, none⟩) (S.length + 1) cap', h.rerow (S' := S ++ [z]) hDl ?_ (by simpa using hrow1) ?_ (w2 := _) (((((Ch.refl (fun k => k = b) w1).set (a := ⟨b, 0, none⟩) rfl _).set (a := ⟨b, 1, none⟩) rfl _).set (a := ⟨b, 2, none⟩) rfl _).set (a := ⟨b, 3, none⟩) rfl _ |>.set (a := ⟨b, 4, none⟩) rfl _) ?_ ?_⟩
    · exact (((Ch.refl _ w).al _).dr).trans (Ch.grown hgrow (fun k hk => hk)) (fun k hk => .inl hk)
    · intro k hk
      rcases hblk with e | e
      · exact .inl (e.symm.trans hk)
      · right
        rw [e] at hk
        have : (w.alloc (.cells #[.pointer z.p, .int .i64 z.s.l.length, .pointer z.s.tag, .bool z.s.has] 97)).drew.heap.size = w.heap.size + 1 := by simp
        cases hk
        omega
    · rw [blk_set (blk_set (blk_set (blk_set (blk_set hb3))))]
      simp [rowCells, cntN]
    · intro x hx
      rcases List.mem_append.1 hx with hx | hx
      · exact h.ch x hx
      · obtain rfl : x = _ := by simpa using hx
        rfl
end Go.Proofs.YtpjbfdpblgjmfaaGreatDoor

namespace Go.Proofs.YtpjbfdpblgjmfaaGreatDoor
open Go.RowKit

section
variable {P : Program} {ops : Array Oper} {rest : List Oper} {o : Oper} {a : Act} {w : World} {K : Act → World → Prop} {Q : Exit → Act → World → Prop}
theorem wp_append_none (s x : Operand) (t : TypeId) (hop : o.op = Op.call { callee := Callee.builtin Builtin.append, args := #[s, x], argTypes := #[t, t] }) (e : TypeId) (z : Value) (size bytes : Nat)
    (ht : P.underlying t = some (.slice e)) (hinfo : (P.info? e).map (fun i => (i.zero, i.size, i.bytes)) = some (some z, size, bytes))
    (v : Value) (n : Nat) (xs : List Value) (hs : a.eval s = v) (hown : w.ownsRow 0 e size v n xs) (hx : a.eval x = .slice none 0 0)
    (hK : K (a.put o.dst v) w) : o.wp P a w K Q := by
  obtain ⟨i, hi, hzz⟩ := Option.map_eq_some_iff.1 hinfo
  simp only [Prod.mk.injEq] at hzz
  have hr := run_append_owned_none (P := P) (w := w) 0 t o.type e i size ht hi v n xs hown
  unfold Oper.wp execOp
  simp only [hop, resolve, invoke, builtin, Sem.run_bind, Sem.run_pure, Result.andThen_ok, List.map_toArray, List.map_cons, List.map_nil, hs, hx, hr]
  exact hK
theorem step_append_none {E : Prop} (hg : o.guard = none) (s x : Operand) (t : TypeId) (hop : o.op = Op.call { callee := Callee.builtin Builtin.append, args := #[s, x], argTypes := #[t, t] }) (e : TypeId) (z : Value) (size bytes : Nat)
    (ht : P.underlying t = some (.slice e)) (hinfo : (P.info? e).map (fun i => (i.zero, i.size, i.bytes)) = some (some z, size, bytes))
    (v : Value) (n : Nat) (xs : List Value) (hs : a.eval s = v) (hown : w.ownsRow 0 e size v n xs) (hx : a.eval x = .slice none 0 0)
    (hK : K (a.put o.dst v) w) :
    if Region.wanted o (yielded ops a.tmps) = true then Oper.wp P o a w K Q else E := by
  have hw : Region.wanted o (yielded ops a.tmps) = true := by simp [Region.wanted, hg]
  rw [if_pos hw]
  exact wp_append_none s x t hop e z size bytes ht hinfo v n xs hs hown hx hK
end
theorem cells_one (S : List Sn) : ∀ u ∈ S.flatMap Sn.cells, u.oneCell' = true := by
  intro u hu
  obtain ⟨z, _, hu⟩ := List.mem_flatMap.1 hu
  simp [Sn.cells] at hu
  rcases hu with rfl | rfl | rfl | rfl <;> rfl
theorem blk_drS (w : World) (b : Nat) : w.drew.heap[b]? = w.heap[b]? := rfl
theorem cntN_append (A B : List Sn) : cntN (A ++ B) = cntN A + cntN B := by simp [cntN]

end Go.Proofs.YtpjbfdpblgjmfaaGreatDoor

namespace Go.Proofs.YtpjbfdpblgjmfaaGreatDoor
open Go.RowKit

theorem run_append0 {P : Program} (w : World) (t ty e : TypeId) (z : Value) (size bytes : Nat) (ht : P.underlying t = some (.slice e)) (hinfo : (P.info? e).map (fun i => (i.zero, i.size, i.bytes)) = some (some z, size, bytes)) (a b : Addr) (i cap c : Nat) (h : i ≤ cap) :
    (Builtin.append_ #[t, t] ty #[.slice (some a) i cap, .slice (some b) 0 c]).run P w = .ok (.slice (some a) i cap) w := by
  obtain ⟨x, hi, hzz⟩ := Option.map_eq_some_iff.1 hinfo
  simp [Builtin.append_, run_underlying ht, sizeOf, typeInfo, hi, Builtin.lenOf, Builtin.firstCells, loadCells, loadCellsFrom, storeCells, h]

theorem run_clear {P : Program} (w : World) (t ty e : TypeId) (z : Value) (size bytes : Nat) (ht : P.underlying t = some (.slice e)) (hinfo : (P.info? e).map (fun i => (i.zero, i.size, i.bytes)) = some (some z, size, bytes)) (g o m c : Nat) (cur : Array Value) (T : TypeId)
    (hg : w.heap[g]? = some (.cells cur T (0, 0))) (hl : o + m * z.cells.size ≤ cur.size) (h1 : ∀ v ∈ z.cells, v.oneCell' = true) :
    ∃ cur', (Builtin.clear_ #[t] ty #[.slice (some ⟨g, o, none⟩) m c]).run P w = .ok (.tuple #[]) (w.setRow g cur') ∧ cur'.size = cur.size ∧ cur'.toList.take o = cur.toList.take o := by
  obtain ⟨x, hi, hzz⟩ := Option.map_eq_some_iff.1 hinfo
  simp only [Prod.mk.injEq] at hzz
  cases m with
  | zero =>
    refine ⟨cur, ?_, rfl, rfl⟩
    rw [setRow_self w g cur T (0, 0) hg]
    simp [Builtin.clear_, run_underlying ht]
  | succ m =>
    have hzl : (Builtin.zeroCells z.cells (m + 1)).toList.length = (m + 1) * z.cells.size := by simp [Builtin.zeroCells]
    have hst := run_storeCells_at P g o T (Builtin.zeroCells z.cells (m + 1)).toList 0 cur w hg (by rw [hzl]; omega) (by
      intro v hv
      simp [Builtin.zeroCells] at hv
      obtain ⟨i, hi, rfl⟩ := hv
      have hp : 0 < z.cells.size := by
        rcases Nat.eq_zero_or_pos z.cells.size with h | h
        · rw [h] at hi; omega
        · exact h
      have := Nat.mod_lt i hp
      rw [getElem!_pos z.cells _ this]
      exact h1 _ (by simp))
    obtain ⟨Z, hZ⟩ : ∃ Z, (Builtin.zeroCells z.cells (m + 1)).toList = Z := ⟨_, rfl⟩
    rw [hZ] at hst hzl
    refine ⟨(cur.toList.take (o + 0) ++ Z ++ cur.toList.drop (o + 0 + Z.length)).toArray, ?_, ?_, ?_⟩
    · simp only [Builtin.clear_]
      simp [run_underlying ht, zeroValue, typeInfo, hi, hzz.1, hZ]
      simp at hst
      rw [hst]
      rfl
    · simp; omega
    · have hol : o ≤ cur.toList.length := by simp; omega
      show List.take o (List.take (o + 0) cur.toList ++ Z ++ List.drop (o + 0 + Z.length) cur.toList) = _
      rw [Nat.add_zero, List.append_assoc, List.take_append_of_le_length (by rw [List.length_take]; omega), List.take_take, Nat.min_self]

set_option maxRecDepth 100000 in
set_option maxHeartbeats 4000000 in
theorem delete_any (w : World) (g n cap i : Nat) (xs : List Value) (h : w.ownsRow 0 97 4 (.slice (some ⟨g, 0, none⟩) n cap) n xs) (hi : i < n) (hn : n < 1000000000) :
    Calls Tryz.prog 98 #[.slice (some ⟨g, 0, none⟩) n cap, .int .i64 i, .int .i64 n] w fun e w' => e = .returned (.slice (some ⟨g, 0, none⟩) i cap) ∧
      w'.ownsRow 0 97 4 (.slice (some ⟨g, 0, none⟩) i cap) i (xs.take (i * 4)) ∧ Ch (fun k => k = g) w w' := by
  rcases h.2 with ⟨h0, _⟩ | ⟨g', cap', cur, h0, _, hg, hnc, hcm, hcs, htk⟩
  · cases h0
  cases h0
  have hmx : Tryz.prog.follows .mixedOrders = true := by kernel_rfl
  have hap := fun (W : World) (a b : Addr) (c : Nat) => run_append0 (P := Tryz.prog) W 94 94 97 _ 4 32 Tryz.underlying94 Tryz.infoS a b i cap c (by omega)
  have hne : ¬ ((i : Int) = (n : Int)) := by omega
  go_enter Tryz.func98, Tryz.ntmps98
  go_upto_region 5 with (fail)
  have hcapl : cap ≤ 9223372036854775807 := hcm
  have k1 : (0 : Int) ≤ (i : Int) := by omega
  have k2 : (i : Int) ≤ (n : Int) := by omega
  have k3 : (n : Int) ≤ (cap : Int) := by omega
  have k4 : (i : Int) ≤ (cap : Int) := by omega
  have k5 : (0 : Int) ≤ (n : Int) := by omega
  have hcase : (if cap = n then some (⟨g, 0, none⟩ : Addr) else some ⟨g, n * 4, none⟩) = some (if cap = n then ⟨g, 0, none⟩ else ⟨g, n * 4, none⟩) := by split <;> rfl
  obtain ⟨cur', hcl, e1, e2⟩ := run_clear (P := Tryz.prog) w.drew 94 0 97 _ 4 32 Tryz.underlying94 Tryz.infoS g (i * 4) (n - i) (cap - i) cur 97 hg (by rw [hcs]; show i * 4 + (n - i) * 4 ≤ cap * 4; omega) (by simp [Value.cells, Value.oneCell'])
  have fin : w.drew.setRow g cur' |>.ownsRow 0 97 4 (.slice (some ⟨g, 0, none⟩) i cap) i (xs.take (i * 4)) := by
    refine ⟨by rw [List.length_take, h.1]; omega, .inr ⟨g, cap, cur', rfl, Nat.zero_le _, setRow_heap _ g cur _ _ _ hg, by omega, hcm, by rw [e1, hcs], ?_⟩⟩
    rw [e2, ← htk, List.take_take]
    congr 1
    omega
  have finc : Ch (fun k => k = g) w (w.drew.setRow g cur') := ⟨by simp, fun k _ hk => setRow_other w.drew g k _ hk, rfl, rfl⟩
  rcases Nat.eq_or_lt_of_le hnc with hcn | hcn
  · subst hcn
    go_region
    go_wp2
    go_ret
    exact ⟨rfl, fin, finc⟩
  · have hcn2 : ¬ cap = n := by omega
    go_region
    go_wp2
    go_ret
    exact ⟨rfl, fin, finc⟩
end Go.Proofs.YtpjbfdpblgjmfaaGreatDoor
