/-
  The program's Put.
-/
import Derived.Test.YtknjbiineihgfaaSg
set_option linter.unusedVariables false
set_option linter.unusedSimpArgs false
namespace Go.Proofs.Ytknjbiineihgfaa
open Go.RowKit

/-- A piece: it and its row lie in D. -/
structure PcM (D : Nat → Prop) (w : World) (b : Nat) (v : Value) (S : List Sn) (z : Sn) : Prop where
  blk : w.heap[b]? = some (.cells (rowCells v S z) 76 (0, 0))
  row : w.ownsRow 0 57 4 v S.length (S.flatMap Sn.cells)
  ch : ∀ x ∈ S ++ [z], Chain D w x.p x.s.l.reverse
  din : ∀ k, own b v k → D k
theorem PcM.keep {D D' : Nat → Prop} {w w' : World} {b : Nat} {v : Value} {S : List Sn} {z : Sn} (h : PcM D w b v S z) (hD : ∀ k, D k → D' k) (hs : ∀ k, D k → w'.heap[k]? = w.heap[k]?) : PcM D' w' b v S z :=
  ⟨(hs b (h.din b (.inl rfl))).trans h.blk, ownsRow_keep h.row (fun k hk => hs k (h.din k (.inr hk))), fun x hx => (h.ch x hx).keep hD hs, fun k hk => hD k (h.din k hk)⟩
section
variable {P : Program} {ops : Array Oper} {rest : List Oper} {o : Oper} {a : Act} {w : World} {K : Act → World → Prop} {Q : Exit → Act → World → Prop}
theorem wp_append_none (s x : Operand) (t : TypeId) (hop : o.op = Op.call { callee := Callee.builtin Builtin.append, args := #[s, x], argTypes := #[t, t] }) (e : TypeId) (z : Value) (size bytes : Nat)
    (ht : P.underlying t = some (.slice e)) (hinfo : (P.info? e).map (fun i => (i.zero, i.size, i.bytes)) = some (some z, size, bytes))
    (v : Value) (n : Nat) (xs : List Value) (hs : a.eval s = v) (hown : w.ownsRow 0 e size v n xs) (hx : a.eval x = .slice none 0 0)
    (hK : K (a.put o.dst v) w) : o.wp P a w K Q := by
  obtain ⟨i, hi, hzz⟩ := Option.map_eq_some_iff.1 hinfo
  simp only [Prod.mk.injEq] at hzz
  have hr := run_append_owned_none (P := P) (w := w) 0 t o.type e i size ht hi v n xs hown
  unfold Oper.wp execOp
  simp only [hop, resolve, invoke, builtin, Sem.run_bind, Sem.run_pure, Result.andThen_ok, List.map_toArray, List.map_cons, List.map_nil, hs, hx, hr]
  exact hK
theorem step_append_none {E : Prop} (hg : o.guard = none) (s x : Operand) (t : TypeId) (hop : o.op = Op.call { callee := Callee.builtin Builtin.append, args := #[s, x], argTypes := #[t, t] }) (e : TypeId) (z : Value) (size bytes : Nat)
    (ht : P.underlying t = some (.slice e)) (hinfo : (P.info? e).map (fun i => (i.zero, i.size, i.bytes)) = some (some z, size, bytes))
    (v : Value) (n : Nat) (xs : List Value) (hs : a.eval s = v) (hown : w.ownsRow 0 e size v n xs) (hx : a.eval x = .slice none 0 0)
    (hK : K (a.put o.dst v) w) :
    if Region.wanted o (yielded ops a.tmps) = true then Oper.wp P o a w K Q else E := by
  have hw : Region.wanted o (yielded ops a.tmps) = true := by simp [Region.wanted, hg]
  rw [if_pos hw]
  exact wp_append_none s x t hop e z size bytes ht hinfo v n xs hs hown hx hK
end
theorem cells_one (S : List Sn) : ∀ u ∈ S.flatMap Sn.cells, u.oneCell' = true := by
  intro u hu
  obtain ⟨z, _, hu⟩ := List.mem_flatMap.1 hu
  simp [Sn.cells] at hu
  rcases hu with rfl | rfl | rfl | rfl <;> rfl
/-- What a row holds, cell by cell. -/
theorem row_cell {w : World} {base : Nat} {e : TypeId} {size : Nat} {g n cap : Nat} {xs : List Value} (h : w.ownsRow base e size (.slice (some ⟨g, 0, none⟩) n cap) n xs) (j : Nat) (u : Value) (hj : xs[j]? = some u) : w.cell? ⟨g, j, none⟩ = some u := by
  rcases h.2 with ⟨h1, _⟩ | ⟨g', cap', cur, h1, _, hg, h2, h3, h4, h5⟩
  · cases h1
  · cases h1
    have hlt := (List.getElem?_eq_some_iff.1 hj).1
    rw [h.1] at hlt
    rw [← h5, List.getElem?_take_of_lt hlt] at hj
    simp only [World.cell?, hg]
    simpa using hj
theorem add_cell (g j : Nat) : (⟨g, 0, none⟩ : Addr).add j = ⟨g, j, none⟩ := by simp [Addr.add]; omega

theorem blk_dr (w : World) (b : Nat) : w.drew.heap[b]? = w.heap[b]? := rfl
theorem cntN_append (A B : List Sn) : cntN (A ++ B) = cntN A + cntN B := by simp [cntN]

set_option maxHeartbeats 8000000 in
theorem put_piece {D : Nat → Prop} (w : World) (b : Nat) (v : Value) (S : List Sn) (z : Sn) (pb : Nat) (u : Value) (PS : List Sn) (pz : Sn) (hDl : ∀ k, D k → k < w.heap.size) (h : StM D w b 61 v S z) (hp : PcM D w pb u PS pz)
    (hn : S.length < 1000000000) (hm : PS.length < 1000000000) (hc1 : cntN (S ++ [z]) < 1000000000) (hc2 : cntN (PS ++ [pz]) < 1000000000) :
    Calls Try.prog 23 #[.pointer (some ⟨b, 0, none⟩), .pointer (some ⟨pb, 0, none⟩)] w fun e w' => e = .returned (.tuple #[]) ∧
      ∃ v', StM D w' b 61 v' (S ++ [z] ++ PS) pz ∧ Ch (own b v) w w' ∧ More w (own b v) (own b v') := by
  obtain ⟨c0, c1, c2, c3, c4, c5, hf⟩ := h.cells
  have hbl := h.lt
  have hrow := h.row
  have hne := h.ne
  have hpD := hp.din pb (.inl rfl)
  have hpl := hDl pb hpD
  have hpb : pb ≠ b := fun e => h.dis b (.inl rfl) (e ▸ hpD)
  have hpv : v.ownBlock ≠ some pb := fun e => h.dis pb (.inr e) hpD
  obtain ⟨a, cap, rfl, ha, hcap⟩ := row_slice h.row
  obtain ⟨q0, q1, q2, q3, q4, q5, qf⟩ := row_cells hp.blk
  have hmx : Try.prog.follows .mixedOrders = true := by kernel_rfl
  have hAc : ∀ j u, z.cells[j]? = some u → ((w.alloc (.cells #[.pointer z.p, .int .i64 z.s.l.length, .int .i64 z.s.tag, .bool z.s.has] 57)).drew).cell? ((⟨w.heap.size, 0, none⟩ : Addr).add j) = some u := by
    intro j u hj
    have hb := World.alloc_heap_new w (.cells #[.pointer z.p, .int .i64 z.s.l.length, .int .i64 z.s.tag, .bool z.s.has] 57)
    rw [add_cell]
    show (w.alloc (.cells #[.pointer z.p, .int .i64 z.s.l.length, .int .i64 z.s.tag, .bool z.s.has] 57)).cell? ⟨w.heap.size, j, none⟩ = some u
    simp only [World.cell?, hb]
    simpa [Sn.cells] using hj
  have hr1 : (w.alloc (.cells #[.pointer z.p, .int .i64 z.s.l.length, .int .i64 z.s.tag, .bool z.s.has] 57)).drew.ownsRow 0 57 4 (.slice a S.length cap) S.length (S.flatMap Sn.cells) := ownsRow_keep hrow (fun k hk => (Ch.alloc (fun _ => False) w _).same k (ownsRow_lt hrow hk) (fun h => h))
  have hr2 : ∀ u ∈ z.cells, u.oneCell' = true := by have := cells_one [z]; simpa using this
  have hb2 : (w.alloc (.cells #[.pointer z.p, .int .i64 z.s.l.length, .int .i64 z.s.tag, .bool z.s.has] 57)).drew.heap[b]? = some (.cells (rowCells (.slice a S.length cap) S z) 61 (0, 0)) := blk_alloc h.blk
  have hpb2 : (w.alloc (.cells #[.pointer z.p, .int .i64 z.s.l.length, .int .i64 z.s.tag, .bool z.s.has] 57)).drew.heap[pb]? = some (.cells (rowCells u PS pz) 76 (0, 0)) := blk_alloc hp.blk
  have hpr := hp.row
  have hW : IntKind.i64.wrap (((cntN (S ++ [z]) : Nat) : Int) + ((cntN (PS ++ [pz]) : Nat) : Int)) = ((cntN (S ++ [z]) : Nat) : Int) + ((cntN (PS ++ [pz]) : Nat) : Int) := by rw [IntWalk.i64_in _ (by omega)]
  go_enter Try.func23, Try.ntmps23
  rcases hpr.2 with ⟨rfl, hp0⟩ | ⟨gp, capp, cur, rfl, _, hgp, _⟩
  · go_upto_region 1 with (fail)
    refine wp_region_held_drew (S := (fun w' => w'.cell? ⟨b, 1, none⟩ = some (.pointer z.p) ∧ w'.cell? ⟨b, 2, none⟩ = some (.int .i64 z.s.l.length) ∧ w'.cell? ⟨b, 3, none⟩ = some (.int .i64 z.s.tag) ∧ w'.cell? ⟨b, 4, none⟩ = some (.bool z.s.has) ∧ w'.cell? ⟨pb, 0, none⟩ = some (.slice none 0 0))) (by kernel_rfl) (by first | trivial | ((try dsimp only); go_keep)) (fun hHeld => ?_)
    refine wpAnyH_take (i := 0) (v := ?vvp1) rfl (by kernel_rfl) (by kernel_rfl) (by kernel_rfl) (fun _ _ _ h => h) (Or.inl ⟨by rfl, ?yyp1⟩) (by assumption) ?rrp1
    case yyp1 => (intro w' hSw; (try dsimp only at hSw); go_simp; (try with_reducible rfl))
    try simp only [Act.put, List.setIfInBounds_toArray, List.set_cons_zero, List.set_cons_succ]
    refine wpAnyH_take (i := 1) (v := ?vvp2) rfl (by kernel_rfl) (by kernel_rfl) (by kernel_rfl) (fun _ _ _ h => h) (Or.inl ⟨by rfl, ?yyp2⟩) (by assumption) ?rrp2
    case yyp2 => (intro w' hSw; (try dsimp only at hSw); go_simp; (try with_reducible rfl))
    try simp only [Act.put, List.setIfInBounds_toArray, List.set_cons_zero, List.set_cons_succ]
    refine wpAnyH_take (i := 2) (v := ?vvp3) rfl (by kernel_rfl) (by kernel_rfl) (by kernel_rfl) (fun _ _ _ h => h) (Or.inl ⟨by rfl, ?yyp3⟩) (by assumption) ?rrp3
    case yyp3 => (intro w' hSw; (try dsimp only at hSw); go_simp; (try with_reducible rfl))
    try simp only [Act.put, List.setIfInBounds_toArray, List.set_cons_zero, List.set_cons_succ]
    refine wpAnyH_take (i := 3) (v := ?vvp4) rfl (by kernel_rfl) (by kernel_rfl) (by kernel_rfl) (fun _ _ _ h => h) (Or.inl ⟨by rfl, ?yyp4⟩) (by assumption) ?rrp4
    case yyp4 => (intro w' hSw; (try dsimp only at hSw); go_simp; (try with_reducible rfl))
    try simp only [Act.put, List.setIfInBounds_toArray, List.set_cons_zero, List.set_cons_succ]
    refine wpAnyH_take (i := 4) (v := ?vvp5) rfl (by kernel_rfl) (by kernel_rfl) (by kernel_rfl) (fun _ _ _ h => h) (Or.inl ⟨by rfl, ?yyp5⟩) (by assumption) ?rrp5
    case yyp5 => (intro w' hSw; (try dsimp only at hSw); go_simp; (try with_reducible rfl))
    try simp only [Act.put, List.setIfInBounds_toArray, List.set_cons_zero, List.set_cons_succ]
    refine wpAnyH_take (i := 6) (v := ?vvp6) rfl (by kernel_rfl) (by kernel_rfl) (by kernel_rfl) (fun _ _ _ h => h) (Or.inl ⟨by rfl, ?yyp6⟩) (by assumption) ?rrp6
    case yyp6 => (intro w' hSw; (try dsimp only at hSw); go_simp; (try with_reducible rfl))
    try simp only [Act.put, List.setIfInBounds_toArray, List.set_cons_zero, List.set_cons_succ]
    refine wpAnyH_take (i := 7) (v := ?vvp7) rfl (by kernel_rfl) (by kernel_rfl) (by kernel_rfl) (fun _ _ _ h => h) (Or.inl ⟨by rfl, ?yyp7⟩) (by assumption) ?rrp7
    case yyp7 => (intro w' hSw; (try dsimp only at hSw); go_simp; (try with_reducible rfl))
    try simp only [Act.put, List.setIfInBounds_toArray, List.set_cons_zero, List.set_cons_succ]
    refine wpAnyH_take (i := 8) (v := ?vvp8) rfl (by kernel_rfl) (by kernel_rfl) (by kernel_rfl) (fun _ _ _ h => h) (Or.inl ⟨by rfl, ?yyp8⟩) (by assumption) ?rrp8
    case yyp8 => (intro w' hSw; (try dsimp only at hSw); go_simp; (try with_reducible rfl))
    try simp only [Act.put, List.setIfInBounds_toArray, List.set_cons_zero, List.set_cons_succ]
    refine wpAnyH_take (i := 9) (v := ?vvp9) rfl (by kernel_rfl) (by kernel_rfl) (by kernel_rfl) (fun _ _ _ h => h) (Or.inl ⟨by rfl, ?yyp9⟩) (by assumption) ?rrp9
    case yyp9 => (intro w' hSw; (try dsimp only at hSw); go_simp; (try with_reducible rfl))
    try simp only [Act.put, List.setIfInBounds_toArray, List.set_cons_zero, List.set_cons_succ]
    refine wpAnyH_take (i := 10) (v := ?vvp10) rfl (by kernel_rfl) (by kernel_rfl) (by kernel_rfl) (fun _ _ _ h => h) (Or.inl ⟨by rfl, ?yyp10⟩) (by assumption) ?rrp10
    case yyp10 => (intro w' hSw; (try dsimp only at hSw); go_simp; (try with_reducible rfl))
    try simp only [Act.put, List.setIfInBounds_toArray, List.set_cons_zero, List.set_cons_succ]
    refine wpAnyH_take (i := 13) (v := ?vvp11) rfl (by kernel_rfl) (by kernel_rfl) (by kernel_rfl) (fun _ _ _ h => h) (Or.inl ⟨by rfl, ?yyp11⟩) (by assumption) ?rrp11
    case yyp11 => (intro w' hSw; (try dsimp only at hSw); go_simp; (try with_reducible rfl))
    try simp only [Act.put, List.setIfInBounds_toArray, List.set_cons_zero, List.set_cons_succ]
    refine wpAnyH_take (i := 14) (v := ?vvp12) rfl (by kernel_rfl) (by kernel_rfl) (by kernel_rfl) (fun _ _ _ h => h) (Or.inl ⟨by rfl, ?yyp12⟩) (by assumption) ?rrp12
    case yyp12 => (intro w' hSw; (try dsimp only at hSw); go_simp; (try with_reducible rfl))
    try simp only [Act.put, List.setIfInBounds_toArray, List.set_cons_zero, List.set_cons_succ]
    refine wpAnyH_take (i := 15) (v := ?vvp13) rfl (by kernel_rfl) (by kernel_rfl) (by kernel_rfl) (fun _ _ _ h => h) (Or.inl ⟨by rfl, ?yyp13⟩) (by assumption) ?rrp13
    case yyp13 => (intro w' hSw; (try dsimp only at hSw); go_simp; (try with_reducible rfl))
    try simp only [Act.put, List.setIfInBounds_toArray, List.set_cons_zero, List.set_cons_succ]
    refine wpAnyH_take (i := 16) (v := ?vvp14) rfl (by kernel_rfl) (by kernel_rfl) (by kernel_rfl) (fun _ _ _ h => h) (Or.inl ⟨by rfl, ?yyp14⟩) (by assumption) ?rrp14
    case yyp14 => (intro w' hSw; (try dsimp only at hSw); go_simp; (try with_reducible rfl))
    try simp only [Act.put, List.setIfInBounds_toArray, List.set_cons_zero, List.set_cons_succ]
    refine wpAnyH_take (i := 17) (v := ?vvp15) rfl (by kernel_rfl) (by kernel_rfl) (by kernel_rfl) (fun _ _ _ h => h) (Or.inl ⟨by rfl, ?yyp15⟩) (by assumption) ?rrp15
    case yyp15 => (intro w' hSw; (try dsimp only at hSw); go_simp; (try with_reducible rfl))
    try simp only [Act.put, List.setIfInBounds_toArray, List.set_cons_zero, List.set_cons_succ]
    refine wpAnyH_ready (rs := [5, 11]) (by kernel_rfl) (by simp) (AllReadyH.cons rfl (fun K hK => ?_) (AllReadyH.cons rfl (fun K hK => ?_) AllReadyH.nil))
    · go_simp
      clear hHeld
      refine hK.out _ _ ?hs (fun hHeld => ?_)
      case hs => (first | trivial | ((try dsimp only); go_keep) | ((try dsimp only); simp [*, World.cell?_alloc_some, World.cell?_setCell_far, World.cell?_setCell_other]))
      clear hK K
      try simp only [Act.put, List.setIfInBounds_toArray, List.set_cons_zero, List.set_cons_succ]
      refine wpAnyH_ready (rs := [11]) (by kernel_rfl) (by simp) (AllReadyH.cons rfl (fun K hK => ?_) AllReadyH.nil)
      go_simp
      clear hHeld
      refine hK.out _ _ ?hs (fun hHeld => ?_)
      case hs => (first | trivial | ((try dsimp only); go_keep) | ((try dsimp only); simp [*, World.cell?_alloc_some, World.cell?_setCell_far, World.cell?_setCell_other]))
      clear hK K
      try simp only [Act.put, List.setIfInBounds_toArray, List.set_cons_zero, List.set_cons_succ]
      refine wpAnyH_ready (rs := [12]) (by kernel_rfl) (by simp) (AllReadyH.cons rfl (fun K hK => ?_) AllReadyH.nil)
      refine step_append rfl (.tmp 11) (.tmp 17) 54 rfl 57 (.agg #[.pointer none, .int .i64 0, .int .i64 0, .bool false]) 4 32 Try.underlying54 Try.infoS rfl (by decide) (.slice a S.length cap) S.length (S.flatMap Sn.cells) (by simp [Act.eval]) (by exact hr1) ⟨w.heap.size, 0, none⟩ 1 1 z.cells (by simp [Act.eval]) rfl (by exact hAc) hr2 (by unfold maxLen; omega) (by omega) ?_
      intro v' w1 hrow1 hgrow hblk
      obtain ⟨g', cap', rfl⟩ := ownsRow_succ hrow1
      have hb3 := (hgrow.block b (by simp; omega) (fun e => hne e.symm)).trans hb2
      obtain ⟨d0, d1, d2, d3, d4, d5, df⟩ := row_cells hb3
      have hp3 := (hgrow.block pb (by simp; omega) (fun e => hpv e.symm)).trans hpb2
      obtain ⟨r0, r1, r2, r3, r4, r5, rf⟩ := row_cells hp3
      have hcA : Ch (fun k => (Value.slice a S.length cap).ownBlock = some k) w w1 := (((Ch.refl _ w).al _).dr).trans (Ch.grown hgrow (fun k hk => hk)) (fun k hk => .inl hk)
      have hmA : ∀ k, (Value.slice (some ⟨g', 0, none⟩) (S.length + 1) cap').ownBlock = some k → (Value.slice a S.length cap).ownBlock = some k ∨ w.heap.size ≤ k := by
        intro k hk
        rcases hblk with e | e
        · exact .inl (e.symm.trans hk)
        · rw [e] at hk
          cases hk
          exact .inr (by simp)
      clear hgrow hblk
      clear hHeld
      refine hK.out _ _ ?hs (fun hHeld => ?_)
      case hs => (first | trivial | ((try dsimp only); go_keep) | ((try dsimp only); simp [*, World.cell?_alloc_some, World.cell?_setCell_far, World.cell?_setCell_other]))
      clear hK K
      try simp only [Act.put, List.setIfInBounds_toArray, List.set_cons_zero, List.set_cons_succ]
      refine wpAnyH_ready (rs := [18]) (by kernel_rfl) (by simp) (AllReadyH.cons rfl (fun K hK => ?_) AllReadyH.nil)
      refine step_append_none rfl (.tmp 18) (.tmp 23) 54 rfl 57 (.agg #[.pointer none, .int .i64 0, .int .i64 0, .bool false]) 4 32 Try.underlying54 Try.infoS _ _ _ (by simp [Act.eval]; rfl) (by exact hrow1) (by simp [Act.eval]) ?_
      clear hHeld
      refine hK.out _ _ ?hs (fun hHeld => ?_)
      case hs => (first | trivial | ((try dsimp only); go_keep) | ((try dsimp only); simp [*, World.cell?_alloc_some, World.cell?_setCell_far, World.cell?_setCell_other]))
      clear hK K
      try simp only [Act.put, List.setIfInBounds_toArray, List.set_cons_zero, List.set_cons_succ]
      refine wpAnyH_take (i := 19) (v := ?vvp16) rfl (by kernel_rfl) (by kernel_rfl) (by kernel_rfl) (fun _ _ _ h => h) (Or.inl ⟨by rfl, ?yyp16⟩) (by assumption) ?rrp16
      case yyp16 => (intro w' hSw; (try dsimp only at hSw); go_simp; (try with_reducible rfl))
      try simp only [Act.put, List.setIfInBounds_toArray, List.set_cons_zero, List.set_cons_succ]
      refine wpAnyH_take (i := 20) (v := ?vvp17) rfl (by kernel_rfl) (by kernel_rfl) (by kernel_rfl) (fun _ _ _ h => h) (Or.inl ⟨by rfl, ?yyp17⟩) (by assumption) ?rrp17
      case yyp17 => (intro w' hSw; (try dsimp only at hSw); go_simp; (try with_reducible rfl))
      try simp only [Act.put, List.setIfInBounds_toArray, List.set_cons_zero, List.set_cons_succ]
      refine wpAnyH_take (i := 21) (v := ?vvp18) rfl (by kernel_rfl) (by kernel_rfl) (by kernel_rfl) (fun _ _ _ h => h) (Or.inl ⟨by rfl, ?yyp18⟩) (by assumption) ?rrp18
      case yyp18 => (intro w' hSw; (try dsimp only at hSw); go_simp; (try with_reducible rfl))
      try simp only [Act.put, List.setIfInBounds_toArray, List.set_cons_zero, List.set_cons_succ]
      refine wpAnyH_ready (rs := [22]) (by kernel_rfl) (by simp) (AllReadyH.cons rfl (fun K hK => ?_) AllReadyH.nil)
      go_simp
      clear hHeld
      refine hK.out _ _ ?hs (fun hHeld => ?_)
      case hs => (first | trivial | ((try dsimp only); go_keep) | ((try dsimp only); simp [*, World.cell?_alloc_some, World.cell?_setCell_far, World.cell?_setCell_other]))
      clear hK K
      try simp only [Act.put, List.setIfInBounds_toArray, List.set_cons_zero, List.set_cons_succ]
      refine wpAnyH_done (by kernel_rfl) ?_ _
      clear hHeld
      clear hr1 hb2 hAc hr2 c0 c1 c2 c3 c4 c5 hf hpb2 q0 q1 q2 q3 q4 q5 qf
      obtain ⟨N, hN⟩ : ∃ N, cntN (S ++ [z]) = N := ⟨_, rfl⟩
      obtain ⟨M, hM⟩ : ∃ M, cntN (PS ++ [pz]) = M := ⟨_, rfl⟩
      rw [hN] at hc1 hW d5
      rw [hM] at hc2 hW r5
      go_wp2
      go_region
      all_goals
        go_wp2
        go_end0
        refine ⟨rfl, .slice (some ⟨g', 0, none⟩) (S.length + 1) cap', h.rerow (S' := S ++ [z] ++ PS) hDl hcA ?_ hmA (w2 := _) (((((((Ch.refl (fun k => k = b) w1).set (a := ⟨b, 0, none⟩) rfl _).set (a := ⟨b, 1, none⟩) rfl _).set (a := ⟨b, 2, none⟩) rfl _).set (a := ⟨b, 3, none⟩) rfl _).set (a := ⟨b, 4, none⟩) rfl _).set (a := ⟨b, 5, none⟩) rfl _).dr ?_ ?_⟩
        · rw [List.length_eq_zero_iff] at hp0
          subst hp0
          simpa using hrow1
        · rw [blk_dr, blk_set (blk_set (blk_set (blk_set (blk_set (blk_set hb3)))))]
          have : cntN (S ++ [z] ++ PS ++ [pz]) = N + M := by rw [List.append_assoc, cntN_append, hN, hM]
          simp [rowCells, ← List.append_assoc, this]
        · intro x hx
          rw [List.append_assoc] at hx
          rcases List.mem_append.1 hx with hx | hx
          · exact h.ch x hx
          · exact hp.ch x hx
    · go_simp
      clear hHeld
      refine hK.out _ _ ?hs (fun hHeld => ?_)
      case hs => (first | trivial | ((try dsimp only); go_keep) | ((try dsimp only); simp [*, World.cell?_alloc_some, World.cell?_setCell_far, World.cell?_setCell_other]))
      clear hK K
      try simp only [Act.put, List.setIfInBounds_toArray, List.set_cons_zero, List.set_cons_succ]
      refine wpAnyH_ready (rs := [5]) (by kernel_rfl) (by simp) (AllReadyH.cons rfl (fun K hK => ?_) AllReadyH.nil)
      go_simp
      clear hHeld
      refine hK.out _ _ ?hs (fun hHeld => ?_)
      case hs => (first | trivial | ((try dsimp only); go_keep) | ((try dsimp only); simp [*, World.cell?_alloc_some, World.cell?_setCell_far, World.cell?_setCell_other]))
      clear hK K
      try simp only [Act.put, List.setIfInBounds_toArray, List.set_cons_zero, List.set_cons_succ]
      refine wpAnyH_ready (rs := [12]) (by kernel_rfl) (by simp) (AllReadyH.cons rfl (fun K hK => ?_) AllReadyH.nil)
      refine step_append rfl (.tmp 11) (.tmp 17) 54 rfl 57 (.agg #[.pointer none, .int .i64 0, .int .i64 0, .bool false]) 4 32 Try.underlying54 Try.infoS rfl (by decide) (.slice a S.length cap) S.length (S.flatMap Sn.cells) (by simp [Act.eval]) (by exact hr1) ⟨w.heap.size, 0, none⟩ 1 1 z.cells (by simp [Act.eval]) rfl (by exact hAc) hr2 (by unfold maxLen; omega) (by omega) ?_
      intro v' w1 hrow1 hgrow hblk
      obtain ⟨g', cap', rfl⟩ := ownsRow_succ hrow1
      have hb3 := (hgrow.block b (by simp; omega) (fun e => hne e.symm)).trans hb2
      obtain ⟨d0, d1, d2, d3, d4, d5, df⟩ := row_cells hb3
      have hp3 := (hgrow.block pb (by simp; omega) (fun e => hpv e.symm)).trans hpb2
      obtain ⟨r0, r1, r2, r3, r4, r5, rf⟩ := row_cells hp3
      have hcA : Ch (fun k => (Value.slice a S.length cap).ownBlock = some k) w w1 := (((Ch.refl _ w).al _).dr).trans (Ch.grown hgrow (fun k hk => hk)) (fun k hk => .inl hk)
      have hmA : ∀ k, (Value.slice (some ⟨g', 0, none⟩) (S.length + 1) cap').ownBlock = some k → (Value.slice a S.length cap).ownBlock = some k ∨ w.heap.size ≤ k := by
        intro k hk
        rcases hblk with e | e
        · exact .inl (e.symm.trans hk)
        · rw [e] at hk
          cases hk
          exact .inr (by simp)
      clear hgrow hblk
      clear hHeld
      refine hK.out _ _ ?hs (fun hHeld => ?_)
      case hs => (first | trivial | ((try dsimp only); go_keep) | ((try dsimp only); simp [*, World.cell?_alloc_some, World.cell?_setCell_far, World.cell?_setCell_other]))
      clear hK K
      try simp only [Act.put, List.setIfInBounds_toArray, List.set_cons_zero, List.set_cons_succ]
      refine wpAnyH_ready (rs := [18]) (by kernel_rfl) (by simp) (AllReadyH.cons rfl (fun K hK => ?_) AllReadyH.nil)
      refine step_append_none rfl (.tmp 18) (.tmp 23) 54 rfl 57 (.agg #[.pointer none, .int .i64 0, .int .i64 0, .bool false]) 4 32 Try.underlying54 Try.infoS _ _ _ (by simp [Act.eval]; rfl) (by exact hrow1) (by simp [Act.eval]) ?_
      clear hHeld
      refine hK.out _ _ ?hs (fun hHeld => ?_)
      case hs => (first | trivial | ((try dsimp only); go_keep) | ((try dsimp only); simp [*, World.cell?_alloc_some, World.cell?_setCell_far, World.cell?_setCell_other]))
      clear hK K
      try simp only [Act.put, List.setIfInBounds_toArray, List.set_cons_zero, List.set_cons_succ]
      refine wpAnyH_take (i := 19) (v := ?vvp19) rfl (by kernel_rfl) (by kernel_rfl) (by kernel_rfl) (fun _ _ _ h => h) (Or.inl ⟨by rfl, ?yyp19⟩) (by assumption) ?rrp19
      case yyp19 => (intro w' hSw; (try dsimp only at hSw); go_simp; (try with_reducible rfl))
      try simp only [Act.put, List.setIfInBounds_toArray, List.set_cons_zero, List.set_cons_succ]
      refine wpAnyH_take (i := 20) (v := ?vvp20) rfl (by kernel_rfl) (by kernel_rfl) (by kernel_rfl) (fun _ _ _ h => h) (Or.inl ⟨by rfl, ?yyp20⟩) (by assumption) ?rrp20
      case yyp20 => (intro w' hSw; (try dsimp only at hSw); go_simp; (try with_reducible rfl))
      try simp only [Act.put, List.setIfInBounds_toArray, List.set_cons_zero, List.set_cons_succ]
      refine wpAnyH_take (i := 21) (v := ?vvp21) rfl (by kernel_rfl) (by kernel_rfl) (by kernel_rfl) (fun _ _ _ h => h) (Or.inl ⟨by rfl, ?yyp21⟩) (by assumption) ?rrp21
      case yyp21 => (intro w' hSw; (try dsimp only at hSw); go_simp; (try with_reducible rfl))
      try simp only [Act.put, List.setIfInBounds_toArray, List.set_cons_zero, List.set_cons_succ]
      refine wpAnyH_ready (rs := [22]) (by kernel_rfl) (by simp) (AllReadyH.cons rfl (fun K hK => ?_) AllReadyH.nil)
      go_simp
      clear hHeld
      refine hK.out _ _ ?hs (fun hHeld => ?_)
      case hs => (first | trivial | ((try dsimp only); go_keep) | ((try dsimp only); simp [*, World.cell?_alloc_some, World.cell?_setCell_far, World.cell?_setCell_other]))
      clear hK K
      try simp only [Act.put, List.setIfInBounds_toArray, List.set_cons_zero, List.set_cons_succ]
      refine wpAnyH_done (by kernel_rfl) ?_ _
      clear hHeld
      clear hr1 hb2 hAc hr2 c0 c1 c2 c3 c4 c5 hf hpb2 q0 q1 q2 q3 q4 q5 qf
      obtain ⟨N, hN⟩ : ∃ N, cntN (S ++ [z]) = N := ⟨_, rfl⟩
      obtain ⟨M, hM⟩ : ∃ M, cntN (PS ++ [pz]) = M := ⟨_, rfl⟩
      rw [hN] at hc1 hW d5
      rw [hM] at hc2 hW r5
      go_wp2
      go_region
      all_goals
        go_wp2
        go_end0
        refine ⟨rfl, .slice (some ⟨g', 0, none⟩) (S.length + 1) cap', h.rerow (S' := S ++ [z] ++ PS) hDl hcA ?_ hmA (w2 := _) (((((((Ch.refl (fun k => k = b) w1).set (a := ⟨b, 0, none⟩) rfl _).set (a := ⟨b, 1, none⟩) rfl _).set (a := ⟨b, 2, none⟩) rfl _).set (a := ⟨b, 3, none⟩) rfl _).set (a := ⟨b, 4, none⟩) rfl _).set (a := ⟨b, 5, none⟩) rfl _).dr ?_ ?_⟩
        · rw [List.length_eq_zero_iff] at hp0
          subst hp0
          simpa using hrow1
        · rw [blk_dr, blk_set (blk_set (blk_set (blk_set (blk_set (blk_set hb3)))))]
          have : cntN (S ++ [z] ++ PS ++ [pz]) = N + M := by rw [List.append_assoc, cntN_append, hN, hM]
          simp [rowCells, ← List.append_assoc, this]
        · intro x hx
          rw [List.append_assoc] at hx
          rcases List.mem_append.1 hx with hx | hx
          · exact h.ch x hx
          · exact hp.ch x hx
  · go_upto_region 1 with (fail)
    refine wp_region_held_drew (S := (fun w' => w'.cell? ⟨b, 1, none⟩ = some (.pointer z.p) ∧ w'.cell? ⟨b, 2, none⟩ = some (.int .i64 z.s.l.length) ∧ w'.cell? ⟨b, 3, none⟩ = some (.int .i64 z.s.tag) ∧ w'.cell? ⟨b, 4, none⟩ = some (.bool z.s.has) ∧ w'.cell? ⟨pb, 0, none⟩ = some (.slice (some ⟨gp, 0, none⟩) PS.length capp))) (by kernel_rfl) (by first | trivial | ((try dsimp only); go_keep)) (fun hHeld => ?_)
    refine wpAnyH_take (i := 0) (v := ?vvq22) rfl (by kernel_rfl) (by kernel_rfl) (by kernel_rfl) (fun _ _ _ h => h) (Or.inl ⟨by rfl, ?yyq22⟩) (by assumption) ?rrq22
    case yyq22 => (intro w' hSw; (try dsimp only at hSw); go_simp; (try with_reducible rfl))
    try simp only [Act.put, List.setIfInBounds_toArray, List.set_cons_zero, List.set_cons_succ]
    refine wpAnyH_take (i := 1) (v := ?vvq23) rfl (by kernel_rfl) (by kernel_rfl) (by kernel_rfl) (fun _ _ _ h => h) (Or.inl ⟨by rfl, ?yyq23⟩) (by assumption) ?rrq23
    case yyq23 => (intro w' hSw; (try dsimp only at hSw); go_simp; (try with_reducible rfl))
    try simp only [Act.put, List.setIfInBounds_toArray, List.set_cons_zero, List.set_cons_succ]
    refine wpAnyH_take (i := 2) (v := ?vvq24) rfl (by kernel_rfl) (by kernel_rfl) (by kernel_rfl) (fun _ _ _ h => h) (Or.inl ⟨by rfl, ?yyq24⟩) (by assumption) ?rrq24
    case yyq24 => (intro w' hSw; (try dsimp only at hSw); go_simp; (try with_reducible rfl))
    try simp only [Act.put, List.setIfInBounds_toArray, List.set_cons_zero, List.set_cons_succ]
    refine wpAnyH_take (i := 3) (v := ?vvq25) rfl (by kernel_rfl) (by kernel_rfl) (by kernel_rfl) (fun _ _ _ h => h) (Or.inl ⟨by rfl, ?yyq25⟩) (by assumption) ?rrq25
    case yyq25 => (intro w' hSw; (try dsimp only at hSw); go_simp; (try with_reducible rfl))
    try simp only [Act.put, List.setIfInBounds_toArray, List.set_cons_zero, List.set_cons_succ]
    refine wpAnyH_take (i := 4) (v := ?vvq26) rfl (by kernel_rfl) (by kernel_rfl) (by kernel_rfl) (fun _ _ _ h => h) (Or.inl ⟨by rfl, ?yyq26⟩) (by assumption) ?rrq26
    case yyq26 => (intro w' hSw; (try dsimp only at hSw); go_simp; (try with_reducible rfl))
    try simp only [Act.put, List.setIfInBounds_toArray, List.set_cons_zero, List.set_cons_succ]
    refine wpAnyH_take (i := 6) (v := ?vvq27) rfl (by kernel_rfl) (by kernel_rfl) (by kernel_rfl) (fun _ _ _ h => h) (Or.inl ⟨by rfl, ?yyq27⟩) (by assumption) ?rrq27
    case yyq27 => (intro w' hSw; (try dsimp only at hSw); go_simp; (try with_reducible rfl))
    try simp only [Act.put, List.setIfInBounds_toArray, List.set_cons_zero, List.set_cons_succ]
    refine wpAnyH_take (i := 7) (v := ?vvq28) rfl (by kernel_rfl) (by kernel_rfl) (by kernel_rfl) (fun _ _ _ h => h) (Or.inl ⟨by rfl, ?yyq28⟩) (by assumption) ?rrq28
    case yyq28 => (intro w' hSw; (try dsimp only at hSw); go_simp; (try with_reducible rfl))
    try simp only [Act.put, List.setIfInBounds_toArray, List.set_cons_zero, List.set_cons_succ]
    refine wpAnyH_take (i := 8) (v := ?vvq29) rfl (by kernel_rfl) (by kernel_rfl) (by kernel_rfl) (fun _ _ _ h => h) (Or.inl ⟨by rfl, ?yyq29⟩) (by assumption) ?rrq29
    case yyq29 => (intro w' hSw; (try dsimp only at hSw); go_simp; (try with_reducible rfl))
    try simp only [Act.put, List.setIfInBounds_toArray, List.set_cons_zero, List.set_cons_succ]
    refine wpAnyH_take (i := 9) (v := ?vvq30) rfl (by kernel_rfl) (by kernel_rfl) (by kernel_rfl) (fun _ _ _ h => h) (Or.inl ⟨by rfl, ?yyq30⟩) (by assumption) ?rrq30
    case yyq30 => (intro w' hSw; (try dsimp only at hSw); go_simp; (try with_reducible rfl))
    try simp only [Act.put, List.setIfInBounds_toArray, List.set_cons_zero, List.set_cons_succ]
    refine wpAnyH_take (i := 10) (v := ?vvq31) rfl (by kernel_rfl) (by kernel_rfl) (by kernel_rfl) (fun _ _ _ h => h) (Or.inl ⟨by rfl, ?yyq31⟩) (by assumption) ?rrq31
    case yyq31 => (intro w' hSw; (try dsimp only at hSw); go_simp; (try with_reducible rfl))
    try simp only [Act.put, List.setIfInBounds_toArray, List.set_cons_zero, List.set_cons_succ]
    refine wpAnyH_take (i := 13) (v := ?vvq32) rfl (by kernel_rfl) (by kernel_rfl) (by kernel_rfl) (fun _ _ _ h => h) (Or.inl ⟨by rfl, ?yyq32⟩) (by assumption) ?rrq32
    case yyq32 => (intro w' hSw; (try dsimp only at hSw); go_simp; (try with_reducible rfl))
    try simp only [Act.put, List.setIfInBounds_toArray, List.set_cons_zero, List.set_cons_succ]
    refine wpAnyH_take (i := 14) (v := ?vvq33) rfl (by kernel_rfl) (by kernel_rfl) (by kernel_rfl) (fun _ _ _ h => h) (Or.inl ⟨by rfl, ?yyq33⟩) (by assumption) ?rrq33
    case yyq33 => (intro w' hSw; (try dsimp only at hSw); go_simp; (try with_reducible rfl))
    try simp only [Act.put, List.setIfInBounds_toArray, List.set_cons_zero, List.set_cons_succ]
    refine wpAnyH_take (i := 15) (v := ?vvq34) rfl (by kernel_rfl) (by kernel_rfl) (by kernel_rfl) (fun _ _ _ h => h) (Or.inl ⟨by rfl, ?yyq34⟩) (by assumption) ?rrq34
    case yyq34 => (intro w' hSw; (try dsimp only at hSw); go_simp; (try with_reducible rfl))
    try simp only [Act.put, List.setIfInBounds_toArray, List.set_cons_zero, List.set_cons_succ]
    refine wpAnyH_take (i := 16) (v := ?vvq35) rfl (by kernel_rfl) (by kernel_rfl) (by kernel_rfl) (fun _ _ _ h => h) (Or.inl ⟨by rfl, ?yyq35⟩) (by assumption) ?rrq35
    case yyq35 => (intro w' hSw; (try dsimp only at hSw); go_simp; (try with_reducible rfl))
    try simp only [Act.put, List.setIfInBounds_toArray, List.set_cons_zero, List.set_cons_succ]
    refine wpAnyH_take (i := 17) (v := ?vvq36) rfl (by kernel_rfl) (by kernel_rfl) (by kernel_rfl) (fun _ _ _ h => h) (Or.inl ⟨by rfl, ?yyq36⟩) (by assumption) ?rrq36
    case yyq36 => (intro w' hSw; (try dsimp only at hSw); go_simp; (try with_reducible rfl))
    try simp only [Act.put, List.setIfInBounds_toArray, List.set_cons_zero, List.set_cons_succ]
    refine wpAnyH_ready (rs := [5, 11]) (by kernel_rfl) (by simp) (AllReadyH.cons rfl (fun K hK => ?_) (AllReadyH.cons rfl (fun K hK => ?_) AllReadyH.nil))
    · go_simp
      clear hHeld
      refine hK.out _ _ ?hs (fun hHeld => ?_)
      case hs => (first | trivial | ((try dsimp only); go_keep) | ((try dsimp only); simp [*, World.cell?_alloc_some, World.cell?_setCell_far, World.cell?_setCell_other]))
      clear hK K
      try simp only [Act.put, List.setIfInBounds_toArray, List.set_cons_zero, List.set_cons_succ]
      refine wpAnyH_ready (rs := [11]) (by kernel_rfl) (by simp) (AllReadyH.cons rfl (fun K hK => ?_) AllReadyH.nil)
      go_simp
      clear hHeld
      refine hK.out _ _ ?hs (fun hHeld => ?_)
      case hs => (first | trivial | ((try dsimp only); go_keep) | ((try dsimp only); simp [*, World.cell?_alloc_some, World.cell?_setCell_far, World.cell?_setCell_other]))
      clear hK K
      try simp only [Act.put, List.setIfInBounds_toArray, List.set_cons_zero, List.set_cons_succ]
      refine wpAnyH_ready (rs := [12]) (by kernel_rfl) (by simp) (AllReadyH.cons rfl (fun K hK => ?_) AllReadyH.nil)
      refine step_append rfl (.tmp 11) (.tmp 17) 54 rfl 57 (.agg #[.pointer none, .int .i64 0, .int .i64 0, .bool false]) 4 32 Try.underlying54 Try.infoS rfl (by decide) (.slice a S.length cap) S.length (S.flatMap Sn.cells) (by simp [Act.eval]) (by exact hr1) ⟨w.heap.size, 0, none⟩ 1 1 z.cells (by simp [Act.eval]) rfl (by exact hAc) hr2 (by unfold maxLen; omega) (by omega) ?_
      intro v' w1 hrow1 hgrow hblk
      obtain ⟨g', cap', rfl⟩ := ownsRow_succ hrow1
      have hb3 := (hgrow.block b (by simp; omega) (fun e => hne e.symm)).trans hb2
      obtain ⟨d0, d1, d2, d3, d4, d5, df⟩ := row_cells hb3
      have hp3 := (hgrow.block pb (by simp; omega) (fun e => hpv e.symm)).trans hpb2
      obtain ⟨r0, r1, r2, r3, r4, r5, rf⟩ := row_cells hp3
      have hcA : Ch (fun k => (Value.slice a S.length cap).ownBlock = some k) w w1 := (((Ch.refl _ w).al _).dr).trans (Ch.grown hgrow (fun k hk => hk)) (fun k hk => .inl hk)
      have hmA : ∀ k, (Value.slice (some ⟨g', 0, none⟩) (S.length + 1) cap').ownBlock = some k → (Value.slice a S.length cap).ownBlock = some k ∨ w.heap.size ≤ k := by
        intro k hk
        rcases hblk with e | e
        · exact .inl (e.symm.trans hk)
        · rw [e] at hk
          cases hk
          exact .inr (by simp)
      clear hgrow hblk
      clear hHeld
      refine hK.out _ _ ?hs (fun hHeld => ?_)
      case hs => (first | trivial | ((try dsimp only); go_keep) | ((try dsimp only); simp [*, World.cell?_alloc_some, World.cell?_setCell_far, World.cell?_setCell_other]))
      clear hK K
      try simp only [Act.put, List.setIfInBounds_toArray, List.set_cons_zero, List.set_cons_succ]
      refine wpAnyH_ready (rs := [18]) (by kernel_rfl) (by simp) (AllReadyH.cons rfl (fun K hK => ?_) AllReadyH.nil)
      have hrP : w1.ownsRow 0 57 4 (.slice (some ⟨gp, 0, none⟩) PS.length capp) PS.length (PS.flatMap Sn.cells) := ownsRow_keep hpr (fun k hk => hcA.same k (hDl k (hp.din k (.inr hk))) (fun e => h.dis k (.inr e) (hp.din k (.inr hk))))
      refine step_append rfl (.tmp 18) (.tmp 23) 54 rfl 57 (.agg #[.pointer none, .int .i64 0, .int .i64 0, .bool false]) 4 32 Try.underlying54 Try.infoS rfl (by decide) (.slice (some ⟨g', 0, none⟩) (S.length + 1) cap') (S.length + 1) (S.flatMap Sn.cells ++ z.cells) (by simp [Act.eval]) (by exact hrow1) ⟨gp, 0, none⟩ PS.length capp (PS.flatMap Sn.cells) (by simp [Act.eval]) (flat_len PS) (by intro j u hj; rw [add_cell]; exact row_cell hrP j u hj) (cells_one PS) (by unfold maxLen; omega) (by omega) ?_
      intro v2 w2 hrow2 hgrow2 hblk2
      have hne2 : (Value.slice (some ⟨g', 0, none⟩) (S.length + 1) cap').ownBlock ≠ some b := fun e => by
        rcases hmA b e with e | e
        · exact hne e
        · omega
      have hnp2 : (Value.slice (some ⟨g', 0, none⟩) (S.length + 1) cap').ownBlock ≠ some pb := fun e => by
        rcases hmA pb e with e | e
        · exact hpv e
        · omega
      have hsz1 := hcA.size
      have hb4 := (hgrow2.block b (by omega) (fun e => hne2 e.symm)).trans hb3
      have hp4 := (hgrow2.block pb (by omega) (fun e => hnp2 e.symm)).trans hp3
      have hcB : Ch (fun k => (Value.slice a S.length cap).ownBlock = some k) w w2 := hcA.trans (Ch.grown hgrow2 (fun k hk => hk)) hmA
      have hmB : ∀ k, v2.ownBlock = some k → (Value.slice a S.length cap).ownBlock = some k ∨ w.heap.size ≤ k := by
        intro k hk
        rcases hblk2 with e | e
        · exact hmA k (e.symm.trans hk)
        · rw [e] at hk
          cases hk
          exact .inr hsz1
      clear hrow1
      have hrow1 := hrow2
      clear hrow2 hgrow2 hblk2 hb3 hp3 hcA hmA hrP d0 d1 d2 d3 d4 d5 df r0 r1 r2 r3 r4 r5 rf
      have hcA := hcB
      have hmA := hmB
      have hb3 := hb4
      have hp3 := hp4
      clear hb4 hp4 hcB hmB hne2 hnp2 hsz1
      obtain ⟨d0, d1, d2, d3, d4, d5, df⟩ := row_cells hb3
      obtain ⟨r0, r1, r2, r3, r4, r5, rf⟩ := row_cells hp3
      obtain ⟨g2, cap2, rfl⟩ : ∃ g2 cap2, v2 = .slice (some ⟨g2, 0, none⟩) (S.length + 1 + PS.length) cap2 := by
        rw [show S.length + 1 + PS.length = S.length + PS.length + 1 by omega] at hrow1 ⊢
        exact ownsRow_succ hrow1
      clear hHeld
      refine hK.out _ _ ?hs (fun hHeld => ?_)
      case hs => (first | trivial | ((try dsimp only); go_keep) | ((try dsimp only); simp [*, World.cell?_alloc_some, World.cell?_setCell_far, World.cell?_setCell_other]))
      clear hK K
      try simp only [Act.put, List.setIfInBounds_toArray, List.set_cons_zero, List.set_cons_succ]
      refine wpAnyH_take (i := 19) (v := ?vvq37) rfl (by kernel_rfl) (by kernel_rfl) (by kernel_rfl) (fun _ _ _ h => h) (Or.inl ⟨by rfl, ?yyq37⟩) (by assumption) ?rrq37
      case yyq37 => (intro w' hSw; (try dsimp only at hSw); go_simp; (try with_reducible rfl))
      try simp only [Act.put, List.setIfInBounds_toArray, List.set_cons_zero, List.set_cons_succ]
      refine wpAnyH_take (i := 20) (v := ?vvq38) rfl (by kernel_rfl) (by kernel_rfl) (by kernel_rfl) (fun _ _ _ h => h) (Or.inl ⟨by rfl, ?yyq38⟩) (by assumption) ?rrq38
      case yyq38 => (intro w' hSw; (try dsimp only at hSw); go_simp; (try with_reducible rfl))
      try simp only [Act.put, List.setIfInBounds_toArray, List.set_cons_zero, List.set_cons_succ]
      refine wpAnyH_take (i := 21) (v := ?vvq39) rfl (by kernel_rfl) (by kernel_rfl) (by kernel_rfl) (fun _ _ _ h => h) (Or.inl ⟨by rfl, ?yyq39⟩) (by assumption) ?rrq39
      case yyq39 => (intro w' hSw; (try dsimp only at hSw); go_simp; (try with_reducible rfl))
      try simp only [Act.put, List.setIfInBounds_toArray, List.set_cons_zero, List.set_cons_succ]
      refine wpAnyH_ready (rs := [22]) (by kernel_rfl) (by simp) (AllReadyH.cons rfl (fun K hK => ?_) AllReadyH.nil)
      go_simp
      clear hHeld
      refine hK.out _ _ ?hs (fun hHeld => ?_)
      case hs => (first | trivial | ((try dsimp only); go_keep) | ((try dsimp only); simp [*, World.cell?_alloc_some, World.cell?_setCell_far, World.cell?_setCell_other]))
      clear hK K
      try simp only [Act.put, List.setIfInBounds_toArray, List.set_cons_zero, List.set_cons_succ]
      refine wpAnyH_done (by kernel_rfl) ?_ _
      clear hHeld
      clear hr1 hb2 hAc hr2 c0 c1 c2 c3 c4 c5 hf hpb2 q0 q1 q2 q3 q4 q5 qf
      obtain ⟨N, hN⟩ : ∃ N, cntN (S ++ [z]) = N := ⟨_, rfl⟩
      obtain ⟨M, hM⟩ : ∃ M, cntN (PS ++ [pz]) = M := ⟨_, rfl⟩
      rw [hN] at hc1 hW d5
      rw [hM] at hc2 hW r5
      go_wp2
      go_region
      all_goals
        go_wp2
        go_end0
        refine ⟨rfl, .slice (some ⟨g2, 0, none⟩) (S.length + 1 + PS.length) cap2, h.rerow (S' := S ++ [z] ++ PS) hDl hcA ?_ hmA (w2 := _) (((((((Ch.refl (fun k => k = b) w2).set (a := ⟨b, 0, none⟩) rfl _).set (a := ⟨b, 1, none⟩) rfl _).set (a := ⟨b, 2, none⟩) rfl _).set (a := ⟨b, 3, none⟩) rfl _).set (a := ⟨b, 4, none⟩) rfl _).set (a := ⟨b, 5, none⟩) rfl _).dr ?_ ?_⟩
        · have e1 : (S ++ [z] ++ PS).length = S.length + 1 + PS.length := by simp; omega
          have e2 : (S ++ [z] ++ PS).flatMap Sn.cells = S.flatMap Sn.cells ++ z.cells ++ PS.flatMap Sn.cells := by simp
          rw [e1, e2]; exact hrow1
        · rw [blk_dr, blk_set (blk_set (blk_set (blk_set (blk_set (blk_set hb3)))))]
          have : cntN (S ++ [z] ++ PS ++ [pz]) = N + M := by rw [List.append_assoc, cntN_append, hN, hM]
          simp [rowCells, ← List.append_assoc, this]
        · intro x hx
          rw [List.append_assoc] at hx
          rcases List.mem_append.1 hx with hx | hx
          · exact h.ch x hx
          · exact hp.ch x hx
    · go_simp
      clear hHeld
      refine hK.out _ _ ?hs (fun hHeld => ?_)
      case hs => (first | trivial | ((try dsimp only); go_keep) | ((try dsimp only); simp [*, World.cell?_alloc_some, World.cell?_setCell_far, World.cell?_setCell_other]))
      clear hK K
      try simp only [Act.put, List.setIfInBounds_toArray, List.set_cons_zero, List.set_cons_succ]
      refine wpAnyH_ready (rs := [5]) (by kernel_rfl) (by simp) (AllReadyH.cons rfl (fun K hK => ?_) AllReadyH.nil)
      go_simp
      clear hHeld
      refine hK.out _ _ ?hs (fun hHeld => ?_)
      case hs => (first | trivial | ((try dsimp only); go_keep) | ((try dsimp only); simp [*, World.cell?_alloc_some, World.cell?_setCell_far, World.cell?_setCell_other]))
      clear hK K
      try simp only [Act.put, List.setIfInBounds_toArray, List.set_cons_zero, List.set_cons_succ]
      refine wpAnyH_ready (rs := [12]) (by kernel_rfl) (by simp) (AllReadyH.cons rfl (fun K hK => ?_) AllReadyH.nil)
      refine step_append rfl (.tmp 11) (.tmp 17) 54 rfl 57 (.agg #[.pointer none, .int .i64 0, .int .i64 0, .bool false]) 4 32 Try.underlying54 Try.infoS rfl (by decide) (.slice a S.length cap) S.length (S.flatMap Sn.cells) (by simp [Act.eval]) (by exact hr1) ⟨w.heap.size, 0, none⟩ 1 1 z.cells (by simp [Act.eval]) rfl (by exact hAc) hr2 (by unfold maxLen; omega) (by omega) ?_
      intro v' w1 hrow1 hgrow hblk
      obtain ⟨g', cap', rfl⟩ := ownsRow_succ hrow1
      have hb3 := (hgrow.block b (by simp; omega) (fun e => hne e.symm)).trans hb2
      obtain ⟨d0, d1, d2, d3, d4, d5, df⟩ := row_cells hb3
      have hp3 := (hgrow.block pb (by simp; omega) (fun e => hpv e.symm)).trans hpb2
      obtain ⟨r0, r1, r2, r3, r4, r5, rf⟩ := row_cells hp3
      have hcA : Ch (fun k => (Value.slice a S.length cap).ownBlock = some k) w w1 := (((Ch.refl _ w).al _).dr).trans (Ch.grown hgrow (fun k hk => hk)) (fun k hk => .inl hk)
      have hmA : ∀ k, (Value.slice (some ⟨g', 0, none⟩) (S.length + 1) cap').ownBlock = some k → (Value.slice a S.length cap).ownBlock = some k ∨ w.heap.size ≤ k := by
        intro k hk
        rcases hblk with e | e
        · exact .inl (e.symm.trans hk)
        · rw [e] at hk
          cases hk
          exact .inr (by simp)
      clear hgrow hblk
      clear hHeld
      refine hK.out _ _ ?hs (fun hHeld => ?_)
      case hs => (first | trivial | ((try dsimp only); go_keep) | ((try dsimp only); simp [*, World.cell?_alloc_some, World.cell?_setCell_far, World.cell?_setCell_other]))
      clear hK K
      try simp only [Act.put, List.setIfInBounds_toArray, List.set_cons_zero, List.set_cons_succ]
      refine wpAnyH_ready (rs := [18]) (by kernel_rfl) (by simp) (AllReadyH.cons rfl (fun K hK => ?_) AllReadyH.nil)
      have hrP : w1.ownsRow 0 57 4 (.slice (some ⟨gp, 0, none⟩) PS.length capp) PS.length (PS.flatMap Sn.cells) := ownsRow_keep hpr (fun k hk => hcA.same k (hDl k (hp.din k (.inr hk))) (fun e => h.dis k (.inr e) (hp.din k (.inr hk))))
      refine step_append rfl (.tmp 18) (.tmp 23) 54 rfl 57 (.agg #[.pointer none, .int .i64 0, .int .i64 0, .bool false]) 4 32 Try.underlying54 Try.infoS rfl (by decide) (.slice (some ⟨g', 0, none⟩) (S.length + 1) cap') (S.length + 1) (S.flatMap Sn.cells ++ z.cells) (by simp [Act.eval]) (by exact hrow1) ⟨gp, 0, none⟩ PS.length capp (PS.flatMap Sn.cells) (by simp [Act.eval]) (flat_len PS) (by intro j u hj; rw [add_cell]; exact row_cell hrP j u hj) (cells_one PS) (by unfold maxLen; omega) (by omega) ?_
      intro v2 w2 hrow2 hgrow2 hblk2
      have hne2 : (Value.slice (some ⟨g', 0, none⟩) (S.length + 1) cap').ownBlock ≠ some b := fun e => by
        rcases hmA b e with e | e
        · exact hne e
        · omega
      have hnp2 : (Value.slice (some ⟨g', 0, none⟩) (S.length + 1) cap').ownBlock ≠ some pb := fun e => by
        rcases hmA pb e with e | e
        · exact hpv e
        · omega
      have hsz1 := hcA.size
      have hb4 := (hgrow2.block b (by omega) (fun e => hne2 e.symm)).trans hb3
      have hp4 := (hgrow2.block pb (by omega) (fun e => hnp2 e.symm)).trans hp3
      have hcB : Ch (fun k => (Value.slice a S.length cap).ownBlock = some k) w w2 := hcA.trans (Ch.grown hgrow2 (fun k hk => hk)) hmA
      have hmB : ∀ k, v2.ownBlock = some k → (Value.slice a S.length cap).ownBlock = some k ∨ w.heap.size ≤ k := by
        intro k hk
        rcases hblk2 with e | e
        · exact hmA k (e.symm.trans hk)
        · rw [e] at hk
          cases hk
          exact .inr hsz1
      clear hrow1
      have hrow1 := hrow2
      clear hrow2 hgrow2 hblk2 hb3 hp3 hcA hmA hrP d0 d1 d2 d3 d4 d5 df r0 r1 r2 r3 r4 r5 rf
      have hcA := hcB
      have hmA := hmB
      have hb3 := hb4
      have hp3 := hp4
      clear hb4 hp4 hcB hmB hne2 hnp2 hsz1
      obtain ⟨d0, d1, d2, d3, d4, d5, df⟩ := row_cells hb3
      obtain ⟨r0, r1, r2, r3, r4, r5, rf⟩ := row_cells hp3
      obtain ⟨g2, cap2, rfl⟩ : ∃ g2 cap2, v2 = .slice (some ⟨g2, 0, none⟩) (S.length + 1 + PS.length) cap2 := by
        rw [show S.length + 1 + PS.length = S.length + PS.length + 1 by omega] at hrow1 ⊢
        exact ownsRow_succ hrow1
      clear hHeld
      refine hK.out _ _ ?hs (fun hHeld => ?_)
      case hs => (first | trivial | ((try dsimp only); go_keep) | ((try dsimp only); simp [*, World.cell?_alloc_some, World.cell?_setCell_far, World.cell?_setCell_other]))
      clear hK K
      try simp only [Act.put, List.setIfInBounds_toArray, List.set_cons_zero, List.set_cons_succ]
      refine wpAnyH_take (i := 19) (v := ?vvq40) rfl (by kernel_rfl) (by kernel_rfl) (by kernel_rfl) (fun _ _ _ h => h) (Or.inl ⟨by rfl, ?yyq40⟩) (by assumption) ?rrq40
      case yyq40 => (intro w' hSw; (try dsimp only at hSw); go_simp; (try with_reducible rfl))
      try simp only [Act.put, List.setIfInBounds_toArray, List.set_cons_zero, List.set_cons_succ]
      refine wpAnyH_take (i := 20) (v := ?vvq41) rfl (by kernel_rfl) (by kernel_rfl) (by kernel_rfl) (fun _ _ _ h => h) (Or.inl ⟨by rfl, ?yyq41⟩) (by assumption) ?rrq41
      case yyq41 => (intro w' hSw; (try dsimp only at hSw); go_simp; (try with_reducible rfl))
      try simp only [Act.put, List.setIfInBounds_toArray, List.set_cons_zero, List.set_cons_succ]
      refine wpAnyH_take (i := 21) (v := ?vvq42) rfl (by kernel_rfl) (by kernel_rfl) (by kernel_rfl) (fun _ _ _ h => h) (Or.inl ⟨by rfl, ?yyq42⟩) (by assumption) ?rrq42
      case yyq42 => (intro w' hSw; (try dsimp only at hSw); go_simp; (try with_reducible rfl))
      try simp only [Act.put, List.setIfInBounds_toArray, List.set_cons_zero, List.set_cons_succ]
      refine wpAnyH_ready (rs := [22]) (by kernel_rfl) (by simp) (AllReadyH.cons rfl (fun K hK => ?_) AllReadyH.nil)
      go_simp
      clear hHeld
      refine hK.out _ _ ?hs (fun hHeld => ?_)
      case hs => (first | trivial | ((try dsimp only); go_keep) | ((try dsimp only); simp [*, World.cell?_alloc_some, World.cell?_setCell_far, World.cell?_setCell_other]))
      clear hK K
      try simp only [Act.put, List.setIfInBounds_toArray, List.set_cons_zero, List.set_cons_succ]
      refine wpAnyH_done (by kernel_rfl) ?_ _
      clear hHeld
      clear hr1 hb2 hAc hr2 c0 c1 c2 c3 c4 c5 hf hpb2 q0 q1 q2 q3 q4 q5 qf
      obtain ⟨N, hN⟩ : ∃ N, cntN (S ++ [z]) = N := ⟨_, rfl⟩
      obtain ⟨M, hM⟩ : ∃ M, cntN (PS ++ [pz]) = M := ⟨_, rfl⟩
      rw [hN] at hc1 hW d5
      rw [hM] at hc2 hW r5
      go_wp2
      go_region
      all_goals
        go_wp2
        go_end0
        refine ⟨rfl, .slice (some ⟨g2, 0, none⟩) (S.length + 1 + PS.length) cap2, h.rerow (S' := S ++ [z] ++ PS) hDl hcA ?_ hmA (w2 := _) (((((((Ch.refl (fun k => k = b) w2).set (a := ⟨b, 0, none⟩) rfl _).set (a := ⟨b, 1, none⟩) rfl _).set (a := ⟨b, 2, none⟩) rfl _).set (a := ⟨b, 3, none⟩) rfl _).set (a := ⟨b, 4, none⟩) rfl _).set (a := ⟨b, 5, none⟩) rfl _).dr ?_ ?_⟩
        · have e1 : (S ++ [z] ++ PS).length = S.length + 1 + PS.length := by simp; omega
          have e2 : (S ++ [z] ++ PS).flatMap Sn.cells = S.flatMap Sn.cells ++ z.cells ++ PS.flatMap Sn.cells := by simp
          rw [e1, e2]; exact hrow1
        · rw [blk_dr, blk_set (blk_set (blk_set (blk_set (blk_set (blk_set hb3)))))]
          have : cntN (S ++ [z] ++ PS ++ [pz]) = N + M := by rw [List.append_assoc, cntN_append, hN, hM]
          simp [rowCells, ← List.append_assoc, this]
        · intro x hx
          rw [List.append_assoc] at hx
          rcases List.mem_append.1 hx with hx | hx
          · exact h.ch x hx
          · exact hp.ch x hx
end Go.Proofs.Ytknjbiineihgfaa
