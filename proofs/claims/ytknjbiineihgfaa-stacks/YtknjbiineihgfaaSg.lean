/-
  Append as a step; the program's Open.
-/
import Derived.Test.YtknjbiineihgfaaSf
import Derived.RangeFuncBox
import Derived.Deep.RegionLaw
set_option linter.unusedVariables false
set_option linter.unusedSimpArgs false
namespace Go.Proofs.Ytknjbiineihgfaa
open Go.RowKit

theorem upon_append {P : Program} {o : Oper} {a : Act} {w : World} {K : Act → World → Prop} {Q : Exit → Act → World → Prop} {f : Value → World → Result Next} {ty : TypeId} (t e : TypeId) (z : Value) (size bytes : Nat)
    (ht : P.underlying t = some (.slice e)) (hinfo : (P.info? e).map (fun i => (i.zero, i.size, i.bytes)) = some (some z, size, bytes)) (hzs : z.cells.size = size) (hsz : 0 < size)
    (v : Value) (n : Nat) (xs : List Value) (hown : w.ownsRow 0 e size v n xs) (ad : Addr) (m c : Nat) (news : List Value) (hl : news.length = m * size) (hnews : ∀ j u, news[j]? = some u → w.cell? (ad.add j) = some u) (h1 : ∀ u ∈ news, u.oneCell' = true)
    (h63 : n + m ≤ maxLen) (hbytes : (n + m) * bytes ≤ 140737488355328)
    (hK : ∀ v' w', w'.ownsRow 0 e size v' (n + m) (xs ++ news) → w.grownBy w' v.ownBlock → (v'.ownBlock = v.ownBlock ∨ v'.ownBlock = some w.heap.size) → Oper.upon P o a K Q (f v' w')) :
    Oper.upon P o a K Q ((Sem.run P (Builtin.append_ #[t, t] ty #[v, .slice (some ad) m c]) w).andThen f) := by
  obtain ⟨i, hi, hzz⟩ := Option.map_eq_some_iff.1 hinfo
  simp only [Prod.mk.injEq] at hzz
  obtain ⟨hz, hs, hb⟩ := hzz
  obtain ⟨v', w', hr, h1, h2, h3, h4⟩ := run_append_own_at (P := P) w 0 t ty e i z size bytes ht hi hz hs hb hzs hsz v n xs hown ad m c news hl hnews h1 h63 hbytes (Nat.zero_le _)
  rw [show Sem.run P (Builtin.append_ #[t, t] ty #[v, .slice (some ad) m c]) w = .ok v' w' from hr]
  exact hK v' w' h1 h2 h4
section
variable {P : Program} {ops : Array Oper} {rest : List Oper} {o : Oper} {a : Act} {w : World} {K : Act → World → Prop} {Q : Exit → Act → World → Prop}
theorem wp_append (s x : Operand) (t : TypeId) (hop : o.op = Op.call { callee := Callee.builtin Builtin.append, args := #[s, x], argTypes := #[t, t] }) (e : TypeId) (z : Value) (size bytes : Nat)
    (ht : P.underlying t = some (.slice e)) (hinfo : (P.info? e).map (fun i => (i.zero, i.size, i.bytes)) = some (some z, size, bytes)) (hzs : z.cells.size = size) (hsz : 0 < size)
    (v : Value) (n : Nat) (xs : List Value) (hs : a.eval s = v) (hown : w.ownsRow 0 e size v n xs) (ad : Addr) (m c : Nat) (news : List Value) (hx : a.eval x = .slice (some ad) m c) (hl : news.length = m * size) (hnews : ∀ j u, news[j]? = some u → w.cell? (ad.add j) = some u) (h1 : ∀ u ∈ news, u.oneCell' = true)
    (h63 : n + m ≤ maxLen) (hbytes : (n + m) * bytes ≤ 140737488355328)
    (hK : ∀ v' w', w'.ownsRow 0 e size v' (n + m) (xs ++ news) → w.grownBy w' v.ownBlock → (v'.ownBlock = v.ownBlock ∨ v'.ownBlock = some w.heap.size) → K (a.put o.dst v') w') : o.wp P a w K Q := by
  obtain ⟨i, hi, hzz⟩ := Option.map_eq_some_iff.1 hinfo
  simp only [Prod.mk.injEq] at hzz
  obtain ⟨hz, hs1, hb⟩ := hzz
  obtain ⟨v', w', hr, h1, h2, h3, h4⟩ := run_append_own_at (P := P) w 0 t o.type e i z size bytes ht hi hz hs1 hb hzs hsz v n xs hown ad m c news hl hnews h1 h63 hbytes (Nat.zero_le _)
  unfold Oper.wp execOp
  simp only [hop, resolve, invoke, builtin, Sem.run_bind, Sem.run_pure, Result.andThen_ok, List.map_toArray, List.map_cons, List.map_nil, hs, hx, hr]
  exact hK _ _ h1 h2 h4
theorem step_append {E : Prop} (hg : o.guard = none) (s x : Operand) (t : TypeId) (hop : o.op = Op.call { callee := Callee.builtin Builtin.append, args := #[s, x], argTypes := #[t, t] }) (e : TypeId) (z : Value) (size bytes : Nat)
    (ht : P.underlying t = some (.slice e)) (hinfo : (P.info? e).map (fun i => (i.zero, i.size, i.bytes)) = some (some z, size, bytes)) (hzs : z.cells.size = size) (hsz : 0 < size)
    (v : Value) (n : Nat) (xs : List Value) (hs : a.eval s = v) (hown : w.ownsRow 0 e size v n xs) (ad : Addr) (m c : Nat) (news : List Value) (hx : a.eval x = .slice (some ad) m c) (hl : news.length = m * size) (hnews : ∀ j u, news[j]? = some u → w.cell? (ad.add j) = some u) (h1 : ∀ u ∈ news, u.oneCell' = true)
    (h63 : n + m ≤ maxLen) (hbytes : (n + m) * bytes ≤ 140737488355328)
    (hK : ∀ v' w', w'.ownsRow 0 e size v' (n + m) (xs ++ news) → w.grownBy w' v.ownBlock → (v'.ownBlock = v.ownBlock ∨ v'.ownBlock = some w.heap.size) → K (a.put o.dst v') w') :
    if Region.wanted o (yielded ops a.tmps) = true then Oper.wp P o a w K Q else E := by
  have hw : Region.wanted o (yielded ops a.tmps) = true := by simp [Region.wanted, hg]
  rw [if_pos hw]
  exact wp_append s x t hop e z size bytes ht hinfo hzs hsz v n xs hs hown ad m c news hx hl hnews h1 h63 hbytes hK
theorem list_append (hgd : o.guard = none) (s x : Operand) (t : TypeId) (hop : o.op = Op.call { callee := Callee.builtin Builtin.append, args := #[s, x], argTypes := #[t, t] }) (e : TypeId) (z : Value) (size bytes : Nat)
    (ht : P.underlying t = some (.slice e)) (hinfo : (P.info? e).map (fun i => (i.zero, i.size, i.bytes)) = some (some z, size, bytes)) (hzs : z.cells.size = size) (hsz : 0 < size)
    (v : Value) (n : Nat) (xs : List Value) (hs : a.eval s = v) (hown : w.ownsRow 0 e size v n xs) (ad : Addr) (m c : Nat) (news : List Value) (hx : a.eval x = .slice (some ad) m c) (hl : news.length = m * size) (hnews : ∀ j u, news[j]? = some u → w.cell? (ad.add j) = some u) (h1 : ∀ u ∈ news, u.oneCell' = true)
    (h63 : n + m ≤ maxLen) (hbytes : (n + m) * bytes ≤ 140737488355328)
    (hK : ∀ v' w', w'.ownsRow 0 e size v' (n + m) (xs ++ news) → w.grownBy w' v.ownBlock → (v'.ownBlock = v.ownBlock ∨ v'.ownBlock = some w.heap.size) → wpList P ops Q rest (a.put o.dst v') w') :
    wpList P ops Q (o :: rest) a w :=
  wpList_plain hgd fun _ hK' => wp_append s x t hop e z size bytes ht hinfo hzs hsz v n xs hs hown ad m c news hx hl hnews h1 h63 hbytes fun v' w' h1 h2 h3 => hK' _ _ (hK v' w' h1 h2 h3)
end
theorem Try.infoS : (Try.prog.info? 57).map (fun i => (i.zero, i.size, i.bytes)) = some (some (.agg #[.pointer none, .int .i64 0, .int .i64 0, .bool false]), 4, 32) := by kernel_rfl
theorem row_slice {w : World} {base : Nat} {e : TypeId} {size : Nat} {v : Value} {n : Nat} {xs : List Value} (h : w.ownsRow base e size v n xs) : ∃ a cap, v = .slice a n cap ∧ (n = 0 ∨ ∃ g, a = some ⟨g, 0, none⟩) ∧ n ≤ cap := by
  rcases h.2 with ⟨rfl, rfl⟩ | ⟨g, cap, cur, rfl, _, _, h, _⟩
  · exact ⟨none, 0, rfl, .inl rfl, Nat.le_refl _⟩
  · exact ⟨_, cap, rfl, .inr ⟨g, rfl⟩, h⟩
theorem flat_len (S : List Sn) : (S.flatMap Sn.cells).length = S.length * 4 := by
  induction S with
  | nil => rfl
  | cons s r ih => simp [List.flatMap_cons, ih, Sn.cells]; omega

/-- The row of the outer segments is another one: who says so of a later world. -/
theorem StM.rerow {D : Nat → Prop} {w w1 w2 : World} {b : Nat} {T : TypeId} {v v' : Value} {S S' : List Sn} {z z' : Sn} (h : StM D w b T v S z) (hDl : ∀ k, D k → k < w.heap.size) (hc1 : Ch (fun k => v.ownBlock = some k) w w1)
    (hrow1 : w1.ownsRow 0 57 4 v' S'.length (S'.flatMap Sn.cells)) (hm : ∀ k, v'.ownBlock = some k → v.ownBlock = some k ∨ w.heap.size ≤ k) (hc2 : Ch (fun k => k = b) w1 w2)
    (hb2 : w2.heap[b]? = some (.cells (rowCells v' S' z') T (0, 0))) (hch : ∀ x ∈ S' ++ [z'], Chain D w x.p x.s.l.reverse) :
    StM D w2 b T v' S' z' ∧ Ch (own b v) w w2 ∧ More w (own b v) (own b v') := by
  have hne' : v'.ownBlock ≠ some b := fun e => by
    rcases hm b e with h1 | h1
    · exact h.ne h1
    · have := h.lt; omega
  have hc : Ch (own b v) w w2 := (hc1.mono (fun k hk => .inr hk)).trans hc2 (fun k hk => .inl (.inl hk))
  refine ⟨⟨hb2, ownsRow_keep hrow1 (fun k hk => hc2.same k (ownsRow_lt hrow1 hk) (fun e => hne' (by rw [hk, e]))), fun x hx => (hch x hx).keep (fun _ h => h) (fun k hk => hc.same k (hDl k hk) (fun ho => h.dis k ho hk)), fun k hk hD => ?_, hne'⟩, hc, fun k hk => ?_⟩
  · rcases hk with hk | hk
    · exact h.dis k (.inl hk) hD
    · rcases hm k hk with h1 | h1
      · exact h.dis k (.inr h1) hD
      · have := hDl k hD; omega
  · rcases hk with hk | hk
    · exact .inl (.inl hk)
    · exact (hm k hk).imp_left .inr

set_option maxHeartbeats 4000000 in
theorem open_any {D : Nat → Prop} (w : World) (b : Nat) (v : Value) (S : List Sn) (z : Sn) (tag : Int) (hDl : ∀ k, D k → k < w.heap.size) (h : StM D w b 61 v S z) (hn : S.length < 1000000000) :
    Calls Try.prog 13 #[.pointer (some ⟨b, 0, none⟩), .int .i64 tag] w fun e w' => e = .returned (.tuple #[]) ∧
      ∃ v', StM D w' b 61 v' (S ++ [z]) ⟨none, true, tag, []⟩ ∧ Ch (own b v) w w' ∧ More w (own b v) (own b v') := by
  obtain ⟨c0, c1, c2, c3, c4, c5, hf⟩ := h.cells
  have hbl := h.lt
  have hrow := h.row
  obtain ⟨a, cap, rfl, ha, hcap⟩ := row_slice h.row
  have hmx : Try.prog.follows .mixedOrders = true := by kernel_rfl
  go_enter Try.func13, Try.ntmps13
  go_upto_region 0 with (fail)
  have hAc : ∀ j u, z.cells[j]? = some u → ((w.alloc (.cells #[.pointer z.p, .int .i64 z.s.l.length, .int .i64 z.s.tag, .bool z.s.has] 57)).drew).cell? ((⟨w.heap.size, 0, none⟩ : Addr).add j) = some u := by
    intro j u hj
    have hb := World.alloc_heap_new w (.cells #[.pointer z.p, .int .i64 z.s.l.length, .int .i64 z.s.tag, .bool z.s.has] 57)
    rw [show (⟨w.heap.size, 0, none⟩ : Addr).add j = ⟨w.heap.size, j, none⟩ by simp [Addr.add]; omega]
    show (w.alloc (.cells #[.pointer z.p, .int .i64 z.s.l.length, .int .i64 z.s.tag, .bool z.s.has] 57)).cell? ⟨w.heap.size, j, none⟩ = some u
    simp only [World.cell?, hb]
    simpa [Sn.cells] using hj
  have hne := h.ne
  have hr1 : (w.alloc (.cells #[.pointer z.p, .int .i64 z.s.l.length, .int .i64 z.s.tag, .bool z.s.has] 57)).drew.ownsRow 0 57 4 (.slice a S.length cap) S.length (S.flatMap Sn.cells) := ownsRow_keep hrow (fun k hk => (Ch.alloc (fun _ => False) w _).same k (ownsRow_lt hrow hk) (fun h => h))
  have hr2 : ∀ u ∈ z.cells, u.oneCell' = true := by intro u hu; simp [Sn.cells] at hu; rcases hu with rfl | rfl | rfl | rfl <;> rfl
  have hb2 : (w.alloc (.cells #[.pointer z.p, .int .i64 z.s.l.length, .int .i64 z.s.tag, .bool z.s.has] 57)).drew.heap[b]? = some (.cells (rowCells (.slice a S.length cap) S z) 61 (0, 0)) := blk_alloc h.blk
  go_region_law (refine step_append rfl (.tmp 9) (.tmp 15) 54 rfl 57 (.agg #[.pointer none, .int .i64 0, .int .i64 0, .bool false]) 4 32 Try.underlying54 Try.infoS rfl (by decide) (.slice a S.length cap) S.length (S.flatMap Sn.cells) (by simp [Act.eval]) (by exact hr1) ⟨w.heap.size, 0, none⟩ 1 1 z.cells (by simp [Act.eval]) rfl (by exact hAc) hr2 (by unfold maxLen; omega) (by omega) ?_; intro v' w1 hrow1 hgrow hblk; obtain ⟨g', cap', rfl⟩ := ownsRow_succ hrow1; have hb3 := (hgrow.block b (by simp; omega) (fun e => hne e.symm)).trans hb2; obtain ⟨d0, d1, d2, d3, d4, d5, df⟩ := row_cells hb3)
  all_goals
    clear hr1 hb2 hAc hr2 c0 c1 c2 c3 c4 c5 hf
    go_wp2
    go_end0
    refine ⟨rfl, .slice (some ⟨g', 0, none⟩) (S.length + 1) cap', h.rerow (S' := S ++ [z]) hDl ?_ (by simpa using hrow1) ?_ (w2 := _) (((((Ch.refl (fun k => k = b) w1).set (a := ⟨b, 0, none⟩) rfl _).set (a := ⟨b, 1, none⟩) rfl _).set (a := ⟨b, 2, none⟩) rfl _).set (a := ⟨b, 3, none⟩) rfl _ |>.set (a := ⟨b, 4, none⟩) rfl _) ?_ ?_⟩
    · exact (((Ch.refl _ w).al _).dr).trans (Ch.grown hgrow (fun k hk => hk)) (fun k hk => .inl hk)
    · intro k hk
      rcases hblk with e | e
      · exact .inl (e.symm.trans hk)
      · right
        rw [e] at hk
        have : (w.alloc (.cells #[.pointer z.p, .int .i64 z.s.l.length, .int .i64 z.s.tag, .bool z.s.has] 57)).drew.heap.size = w.heap.size + 1 := by simp
        cases hk
        omega
    · rw [blk_set (blk_set (blk_set (blk_set (blk_set hb3))))]
      simp [rowCells, cntN]
    · intro x hx
      rcases List.mem_append.1 hx with hx | hx
      · exact h.ch x hx
      · obtain rfl : x = _ := by simpa using hx
        rfl
end Go.Proofs.Ytknjbiineihgfaa
