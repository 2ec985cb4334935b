/-
  The document's copied.
-/
import Derived.Test.YtknjbiineihgfaaRc
set_option linter.unusedVariables false
set_option linter.unusedSimpArgs false
namespace Go.Proofs.Ytknjbiineihgfaa
open Go.RowKit

theorem step_append_run {P : Program} {ops : Array Oper} {o : Oper} {a : Act} {w w' : World} {v q v' : Value} {K : Act → World → Prop} {Q : Exit → Act → World → Prop} {E : Prop} (hg : o.guard = none) (s x : Operand) (t : TypeId) (hop : o.op = Op.call { callee := Callee.builtin Builtin.append, args := #[s, x], argTypes := #[t, t] })
    (hs : a.eval s = v) (hx : a.eval x = q) (hr : (Builtin.append_ #[t, t] o.type #[v, q]).run P w = .ok v' w') (hK : K (a.put o.dst v') w') : if Region.wanted o (yielded ops a.tmps) = true then Oper.wp P o a w K Q else E := by
  have hw : Region.wanted o (yielded ops a.tmps) = true := by simp [Region.wanted, hg]
  rw [if_pos hw]
  unfold Oper.wp execOp
  simp only [hop, resolve, invoke, builtin, Sem.run_bind, Sem.run_pure, Result.andThen_ok, List.map_toArray, List.map_cons, List.map_nil, hs, hx, hr]
  exact hK
/-- Frames are copied behind an empty slice. -/
theorem app_copy (W : World) (ty : TypeId) (h : Nat) (q : Value) (l : List Int) (hh : W.heap[h]? = some (.cells #[] 3 (0, 0))) (hq : W.ownsRow 0 3 1 q l.length (l.map (Value.int .i64))) (hl : l.length < 1000000000) :
    ∃ u' W2, (Builtin.append_ #[39, 39] ty #[.slice (some ⟨h, 0, none⟩) 0 0, q]).run Try.prog W = .ok u' W2 ∧ W2.ownsRow 0 3 1 u' l.length (l.map (Value.int .i64)) ∧ W.grownBy W2 (some h) ∧ (u'.ownBlock = some h ∨ u'.ownBlock = some W.heap.size) := by
  have h0 : W.ownsRow 0 3 1 (.slice (some ⟨h, 0, none⟩) 0 0) 0 [] := ⟨rfl, .inr ⟨h, 0, #[], rfl, Nat.zero_le _, hh, Nat.le_refl _, Nat.zero_le _, rfl, rfl⟩⟩
  obtain ⟨i, hi, hzz⟩ := Option.map_eq_some_iff.1 Try.info3
  simp only [Prod.mk.injEq] at hzz
  obtain ⟨hz, hs1, hb⟩ := hzz
  rcases hq.2 with ⟨rfl, hn⟩ | ⟨g, cap, cur, rfl, _, hg, hcap, _, _, _⟩
  · rw [List.length_eq_zero_iff] at hn
    subst hn
    have hr := run_append_owned_none (P := Try.prog) (w := W) 0 39 ty 3 i 1 Try.underlying39 hi _ _ _ h0
    exact ⟨_, _, hr, h0, ⟨rfl, rfl, rfl, Nat.le_refl _, fun _ _ _ => rfl⟩, .inl rfl⟩
  · obtain ⟨v', w', hr, h1, h2, h3, h4⟩ := run_append_own_at (P := Try.prog) W 0 39 ty 3 i (.int .i64 0) 1 8 Try.underlying39 hi hz hs1 hb rfl (by decide) _ _ _ h0 ⟨g, 0, none⟩ l.length cap (l.map (Value.int .i64)) (by simp) (fun j u hj => by rw [add_cell]; exact row_cell hq j u hj) (ints_one l) (by unfold maxLen; omega) (by omega) (Nat.zero_le _)
    refine ⟨v', w', hr, by simpa using h1, h2, h4⟩

/-- A segment put behind others. -/
theorem RsM.push {w w1 : World} {v v' : Value} {L : List Rn} {r : Rn} (h : RsM w v L) (hc1 : Ch (fun k => v.ownBlock = some k) w w1) (hrow : w1.ownsRow 0 68 3 v' (L ++ [r]).length ((L ++ [r]).flatMap Rn.cells)) (hm : ∀ k, v'.ownBlock = some k → v.ownBlock = some k ∨ w.heap.size ≤ k)
    (hu : w1.ownsRow 0 3 1 r.u r.s.l.length (r.s.l.map (Value.int .i64))) (hne : ∀ k, r.u.ownBlock = some k → v'.ownBlock ≠ some k ∧ ¬ rown v L k) : RsM w1 v' (L ++ [r]) := by
  have hold : ∀ q ∈ L, ∀ k, q.u.ownBlock = some k → v.ownBlock ≠ some k ∧ k < w.heap.size := fun q hq k hk => ⟨fun e => h.dv q hq k hk e, ownsRow_lt (h.us q hq) hk⟩
  refine ⟨hrow, fun q hq => ?_, ?_, fun q hq k hk => ?_⟩
  · rcases List.mem_append.1 hq with hq | hq
    · exact ownsRow_keep (h.us q hq) (fun k hk => hc1.same k (hold q hq k hk).2 (hold q hq k hk).1)
    · obtain rfl : q = r := by simpa using hq
      exact hu
  · rw [List.pairwise_append]
    refine ⟨h.ds, by simp, fun q hq q' hq' k hk e => ?_⟩
    obtain rfl : q' = r := by simpa using hq'
    exact (hne k e).2 (.inr ⟨q, hq, hk⟩)
  · rcases List.mem_append.1 hq with hq | hq
    · intro e
      rcases hm k e with e | e
      · exact (hold q hq k hk).1 e
      · have := (hold q hq k hk).2; omega
    · obtain rfl : q = r := by simpa using hq
      exact (hne k hk).1

/-- Segments to be read from an address on. -/
structure RdS (w : World) (g off : Nat) (L : List Rn) : Prop where
  cs : ∀ (i : Nat) (r : Rn), L[i]? = some r → w.cell? ⟨g, off + i * 3, none⟩ = some (.bool r.s.has) ∧ w.cell? ⟨g, off + i * 3 + 1, none⟩ = some (.int .i64 r.s.tag) ∧ w.cell? ⟨g, off + i * 3 + 2, none⟩ = some r.u
  us : ∀ r ∈ L, w.ownsRow 0 3 1 r.u r.s.l.length (r.s.l.map (Value.int .i64))
theorem RdS.same {w w' : World} {g off : Nat} {L : List Rn} (h : RdS w g off L) (hc : Ch (fun _ => False) w w') : RdS w' g off L := by
  refine ⟨fun i r hr => ?_, fun r hr => ownsRow_keep (h.us r hr) (fun k hk => hc.same k (ownsRow_lt (h.us r hr) hk) (fun h => h))⟩
  obtain ⟨h1, h2, h3⟩ := h.cs i r hr
  have hg : g < w.heap.size := block_lt_of_cell h1
  exact ⟨(hc.cell (p := ⟨g, _, none⟩) hg (fun h => h)).trans h1, (hc.cell (p := ⟨g, _, none⟩) hg (fun h => h)).trans h2, (hc.cell (p := ⟨g, _, none⟩) hg (fun h => h)).trans h3⟩
theorem RsM.read {w : World} {g cap : Nat} {L : List Rn} (h : RsM w (.slice (some ⟨g, 0, none⟩) L.length cap) L) (n : Nat) : RdS w g (n * 3) (L.drop n) := by
  refine ⟨fun i r hr => ?_, fun r hr => h.us r (List.mem_of_mem_drop hr)⟩
  rw [List.getElem?_drop] at hr
  have e : ∀ j, j < 3 → n * 3 + i * 3 + j = (n + i) * 3 + j := fun j _ => by omega
  refine ⟨row_cell h.row _ _ ?_, row_cell h.row _ _ ?_, row_cell h.row _ _ ?_⟩
  · rw [show n * 3 + i * 3 = (n + i) * 3 + 0 by omega]; exact (rflat_get L _ 0 r hr (by decide)).trans rfl
  · rw [show n * 3 + i * 3 + 1 = (n + i) * 3 + 1 by omega]; exact (rflat_get L _ 1 r hr (by decide)).trans rfl
  · rw [show n * 3 + i * 3 + 2 = (n + i) * 3 + 2 by omega]; exact (rflat_get L _ 2 r hr (by decide)).trans rfl

/-- What copied has made so far. -/
def CpIn (w wr : World) (v : Value) (L M : List Rn) (m : Nat) : Prop := RsM wr v M ∧ M.map Rn.s = (L.take m).map Rn.s ∧ (∀ k, rown v M k → w.heap.size ≤ k) ∧ Ch (fun _ => False) w wr ∧ M.length = m

set_option maxHeartbeats 8000000 in
theorem copied_any (w : World) (g off cap : Nat) (L : List Rn) (hR : RdS w g off L) (hL : L.length < 100000000) (hl : ∀ r ∈ L, r.s.l.length < 1000000000) (hcap : L.length ≤ cap) :
    Calls Try.prog 34 #[.slice (some ⟨g, off, none⟩) L.length cap] w fun e w' => ∃ v M, e = .returned v ∧ RsM w' v M ∧ M.map Rn.s = L.map Rn.s ∧ (∀ k, rown v M k → w.heap.size ≤ k) ∧ Ch (fun _ => False) w w' := by
  have hmx : Try.prog.follows .mixedOrders = true := by kernel_rfl
  go_enter Try.func34, Try.ntmps34
  go_wp2
  go_loopw [3, 4] (fun v i wr => ∃ (m : Nat) (M : List Rn), i = .int .i64 m ∧ m ≤ L.length ∧ Hid (CpIn w wr v L M m)) (fun _ i _ => L.length - (intOf i).toNat)
  case atStart => exact ⟨0, [], rfl, Nat.zero_le _, ⟨⟨rfl, .inl ⟨rfl, rfl⟩⟩, by simp, by simp, by simp⟩, by simp, by rintro k (e | ⟨r, hr, e⟩); cases e; simp at hr, Ch.refl _ _, rfl⟩
  case round =>
    obtain ⟨m, M, rfl, hm, HI⟩ := hrel
    by_cases e : m = L.length
    · subst e
      obtain ⟨f1, f2, f3, f4, _⟩ := HI.out
      go_wp2
      go_ret
      exact ⟨u3, M, rfl, f1, by rw [f2, List.take_length], f3, f4⟩
    · have hlt : m < L.length := by omega
      obtain ⟨r, hr⟩ : ∃ r, L[m]? = some r := ⟨L[m], by simp⟩
      have hmem : r ∈ L := List.mem_of_getElem? hr
      have hRr := hR.same HI.out.2.2.2.1
      obtain ⟨d0, d1, d2⟩ := hRr.cs m r hr
      have hru := hRr.us r hmem
      obtain ⟨ar, cr, hur, _⟩ := row_slice hru
      rw [hur] at d2
      obtain ⟨av, cv, rfl, _⟩ := row_slice HI.out.1.row
      have hML := HI.out.2.2.2.2
      have hcond : (m : Int) < (L.length : Int) := by omega
      have hi0 : (0 : Int) ≤ (m : Int) := by omega
      have hw : IntKind.i64.wrap ((m : Int) + 1) = (m : Int) + 1 := IntWalk.i64_in _ (by omega)
      replace hML := hid hML
      have hl0 := hl r hmem
      have hgl : g < wr.heap.size := block_lt_of_cell d0
      have hgw : g < w.heap.size := block_lt_of_cell (hR.cs m r hr).1
      have hgne : (Value.slice av M.length cv).ownBlock ≠ some g := fun e => by have := HI.out.2.2.1 g (.inl e); omega
      go_upto_region 5 with (fail)
      refine wp_region_held_drew (S := (fun w' => w'.cell? ⟨g, off + m * 3, none⟩ = some (.bool r.s.has) ∧ w'.cell? ⟨g, off + m * 3 + 1, none⟩ = some (.int .i64 r.s.tag) ∧ w'.cell? ⟨g, off + m * 3 + 2, none⟩ = some (.slice ar r.s.l.length cr))) (by kernel_rfl) (by first | trivial | ((try dsimp only); go_keep)) (fun hHeld => ?_)
      refine wpAnyH_take (i := 0) (v := ?vvf1) rfl (by kernel_rfl) (by kernel_rfl) (by kernel_rfl) (fun _ _ _ h => h) (Or.inl ⟨by rfl, ?yyf1⟩) (by assumption) ?rrf1
      case yyf1 => (intro w' hSw; (try dsimp only at hSw); go_simp; (try with_reducible rfl))
      try simp only [Act.put, List.setIfInBounds_toArray, List.set_cons_zero, List.set_cons_succ]
      refine wpAnyH_take (i := 1) (v := ?vvf2) rfl (by kernel_rfl) (by kernel_rfl) (by kernel_rfl) (fun _ _ _ h => h) (Or.inl ⟨by rfl, ?yyf2⟩) (by assumption) ?rrf2
      case yyf2 => (intro w' hSw; (try dsimp only at hSw); go_simp; (try with_reducible rfl))
      try simp only [Act.put, List.setIfInBounds_toArray, List.set_cons_zero, List.set_cons_succ]
      refine wpAnyH_take (i := 2) (v := ?vvf3) rfl (by kernel_rfl) (by kernel_rfl) (by kernel_rfl) (fun _ _ _ h => h) (Or.inl ⟨by rfl, ?yyf3⟩) (by assumption) ?rrf3
      case yyf3 => (intro w' hSw; (try dsimp only at hSw); go_simp; (try with_reducible rfl))
      try simp only [Act.put, List.setIfInBounds_toArray, List.set_cons_zero, List.set_cons_succ]
      refine wpAnyH_take (i := 3) (v := ?vvf4) rfl (by kernel_rfl) (by kernel_rfl) (by kernel_rfl) (fun _ _ _ h => h) (Or.inl ⟨by rfl, ?yyf4⟩) (by assumption) ?rrf4
      case yyf4 => (intro w' hSw; (try dsimp only at hSw); go_simp; (try with_reducible rfl))
      try simp only [Act.put, List.setIfInBounds_toArray, List.set_cons_zero, List.set_cons_succ]
      refine wpAnyH_take (i := 4) (v := ?vvf5) rfl (by kernel_rfl) (by kernel_rfl) (by kernel_rfl) (fun _ _ _ h => h) (Or.inl ⟨by rfl, ?yyf5⟩) (by assumption) ?rrf5
      case yyf5 => (intro w' hSw; (try dsimp only at hSw); go_simp; (try with_reducible rfl))
      try simp only [Act.put, List.setIfInBounds_toArray, List.set_cons_zero, List.set_cons_succ]
      refine wpAnyH_take (i := 5) (v := ?vvf6) rfl (by kernel_rfl) (by kernel_rfl) (by kernel_rfl) (fun _ _ _ h => h) (Or.inl ⟨by rfl, ?yyf6⟩) (by assumption) ?rrf6
      case yyf6 => (intro w' hSw; (try dsimp only at hSw); go_simp; (try with_reducible rfl))
      try simp only [Act.put, List.setIfInBounds_toArray, List.set_cons_zero, List.set_cons_succ]
      refine wpAnyH_take (i := 6) (v := ?vvf7) rfl (by kernel_rfl) (by kernel_rfl) (by kernel_rfl) (fun _ _ _ h => h) (Or.inl ⟨by rfl, ?yyf7⟩) (by assumption) ?rrf7
      case yyf7 => (intro w' hSw; (try dsimp only at hSw); go_simp; (try with_reducible rfl))
      try simp only [Act.put, List.setIfInBounds_toArray, List.set_cons_zero, List.set_cons_succ]
      refine wpAnyH_take (i := 7) (v := ?vvf8) rfl (by kernel_rfl) (by kernel_rfl) (by kernel_rfl) (fun _ _ _ h => h) (Or.inl ⟨by rfl, ?yyf8⟩) (by assumption) ?rrf8
      case yyf8 => (intro w' hSw; (try dsimp only at hSw); go_simp; (try with_reducible rfl))
      try simp only [Act.put, List.setIfInBounds_toArray, List.set_cons_zero, List.set_cons_succ]
      refine wpAnyH_take (i := 8) (v := ?vvf9) rfl (by kernel_rfl) (by kernel_rfl) (by kernel_rfl) (fun _ _ _ h => h) (Or.inl ⟨by rfl, ?yyf9⟩) (by assumption) ?rrf9
      case yyf9 => (intro w' hSw; (try dsimp only at hSw); go_simp; (try with_reducible rfl))
      try simp only [Act.put, List.setIfInBounds_toArray, List.set_cons_zero, List.set_cons_succ]
      refine wpAnyH_take (i := 9) (v := ?vvf10) rfl (by kernel_rfl) (by kernel_rfl) (by kernel_rfl) (fun _ _ _ h => h) (Or.inl ⟨by rfl, ?yyf10⟩) (by assumption) ?rrf10
      case yyf10 => (intro w' hSw; (try dsimp only at hSw); go_simp; (try with_reducible rfl))
      try simp only [Act.put, List.setIfInBounds_toArray, List.set_cons_zero, List.set_cons_succ]
      refine wpAnyH_take (i := 10) (v := ?vvf11) rfl (by kernel_rfl) (by kernel_rfl) (by kernel_rfl) (fun _ _ _ h => h) (Or.inl ⟨by rfl, ?yyf11⟩) (by assumption) ?rrf11
      case yyf11 => (intro w' hSw; (try dsimp only at hSw); go_simp; (try with_reducible rfl))
      try simp only [Act.put, List.setIfInBounds_toArray, List.set_cons_zero, List.set_cons_succ]
      refine wpAnyH_take (i := 12) (v := ?vvf12) rfl (by kernel_rfl) (by kernel_rfl) (by kernel_rfl) (fun _ _ _ h => h) (Or.inl ⟨by rfl, ?yyf12⟩) (by assumption) ?rrf12
      case yyf12 => (intro w' hSw; (try dsimp only at hSw); go_simp; (try with_reducible rfl))
      try simp only [Act.put, List.setIfInBounds_toArray, List.set_cons_zero, List.set_cons_succ]
      refine wpAnyH_take (i := 13) (v := ?vvf13) rfl (by kernel_rfl) (by kernel_rfl) (by kernel_rfl) (fun _ _ _ h => h) (Or.inl ⟨by rfl, ?yyf13⟩) (by assumption) ?rrf13
      case yyf13 => (intro w' hSw; (try dsimp only at hSw); go_simp; (try with_reducible rfl))
      try simp only [Act.put, List.setIfInBounds_toArray, List.set_cons_zero, List.set_cons_succ]
      refine wpAnyH_take (i := 14) (v := ?vvf14) rfl (by kernel_rfl) (by kernel_rfl) (by kernel_rfl) (fun _ _ _ h => h) (Or.inl ⟨by rfl, ?yyf14⟩) (by assumption) ?rrf14
      case yyf14 => (intro w' hSw; (try dsimp only at hSw); go_simp; (try with_reducible rfl))
      try simp only [Act.put, List.setIfInBounds_toArray, List.set_cons_zero, List.set_cons_succ]
      refine wpAnyH_take (i := 15) (v := ?vvf15) rfl (by kernel_rfl) (by kernel_rfl) (by kernel_rfl) (fun _ _ _ h => h) (Or.inl ⟨by rfl, ?yyf15⟩) (by assumption) ?rrf15
      case yyf15 => (intro w' hSw; (try dsimp only at hSw); go_simp; (try with_reducible rfl))
      try simp only [Act.put, List.setIfInBounds_toArray, List.set_cons_zero, List.set_cons_succ]
      refine wpAnyH_take (i := 16) (v := ?vvf16) rfl (by kernel_rfl) (by kernel_rfl) (by kernel_rfl) (fun _ _ _ h => h) (Or.inl ⟨by rfl, ?yyf16⟩) (by assumption) ?rrf16
      case yyf16 => (intro w' hSw; (try dsimp only at hSw); go_simp; (try with_reducible rfl))
      try simp only [Act.put, List.setIfInBounds_toArray, List.set_cons_zero, List.set_cons_succ]
      refine wpAnyH_ready (rs := [11]) (by kernel_rfl) (by simp) (AllReadyH.cons rfl (fun K hK => ?_) AllReadyH.nil)
      go_simp
      obtain ⟨W1, hW1⟩ : ∃ W1, (wr.alloc (.cells #[] 3)).drew = W1 := ⟨_, rfl⟩
      have hc1 : Ch (fun _ => False) wr W1 := by rw [← hW1]; exact ((Ch.refl _ wr).al _).dr
      have hb1 : W1.heap[wr.heap.size]? = some (.cells #[] 3 (0, 0)) := by rw [← hW1]; exact World.alloc_heap_new wr _
      have hs1 : W1.heap.size = wr.heap.size + 1 := by rw [← hW1]; simp
      rw [hW1]
      clear hW1
      have x0 := (hc1.cell (p := ⟨g, off + m * 3, none⟩) hgl (fun h => h)).trans d0
      have x1 := (hc1.cell (p := ⟨g, off + m * 3 + 1, none⟩) hgl (fun h => h)).trans d1
      have x2 := (hc1.cell (p := ⟨g, off + m * 3 + 2, none⟩) hgl (fun h => h)).trans d2
      clear hHeld
      refine hK.out _ _ ?hs (fun hHeld => ?_)
      case hs => (first | trivial | ((try dsimp only); go_keep) | ((try dsimp only); simp [*, World.cell?_alloc_some, World.cell?_setCell_far, World.cell?_setCell_other]))
      clear hK K
      try simp only [Act.put, List.setIfInBounds_toArray, List.set_cons_zero, List.set_cons_succ]
      refine wpAnyH_ready (rs := [17]) (by kernel_rfl) (by simp) (AllReadyH.cons rfl (fun K hK => ?_) AllReadyH.nil)
      obtain ⟨u', W2, hr2, hu2, hg2, hb2⟩ := app_copy W1 39 wr.heap.size r.u r.s.l hb1 (ownsRow_keep hru (fun k hk => hc1.same k (ownsRow_lt hru hk) (fun h => h))) hl0
      rw [hur] at hr2
      refine step_append_run rfl (.tmp 22) (.tmp 27) 39 rfl (by simp [Act.eval]) (by simp [Act.eval]) hr2 ?_
      clear hr2
      obtain ⟨au, cu, rfl, _⟩ := row_slice hu2
      have hc2 : Ch (fun _ => False) wr W2 := hc1.trans (O1 := fun k => k = wr.heap.size) (Ch.grown hg2 (fun k hk => by cases hk; rfl)) (fun k hk => .inr (by omega))
      clear x0 x1 x2
      have x0 := (hc2.cell (p := ⟨g, off + m * 3, none⟩) hgl (fun h => h)).trans d0
      have x1 := (hc2.cell (p := ⟨g, off + m * 3 + 1, none⟩) hgl (fun h => h)).trans d1
      have x2 := (hc2.cell (p := ⟨g, off + m * 3 + 2, none⟩) hgl (fun h => h)).trans d2
      have hun : ∀ k, (Value.slice au r.s.l.length cu).ownBlock = some k → wr.heap.size ≤ k := fun k hk => by
        rcases hb2 with e | e
        · rw [e] at hk; cases hk; exact Nat.le_refl _
        · rw [e] at hk; cases hk; omega
      clear hHeld
      refine hK.out _ _ ?hs (fun hHeld => ?_)
      case hs => (first | trivial | ((try dsimp only); go_keep) | ((try dsimp only); simp [*, World.cell?_alloc_some, World.cell?_setCell_far, World.cell?_setCell_other]))
      clear hK K
      try simp only [Act.put, List.setIfInBounds_toArray, List.set_cons_zero, List.set_cons_succ]
      refine wpAnyH_take (i := 18) (v := ?vvf17) rfl (by kernel_rfl) (by kernel_rfl) (by kernel_rfl) (fun _ _ _ h => h) (Or.inl ⟨by rfl, ?yyf17⟩) (by assumption) ?rrf17
      case yyf17 => (intro w' hSw; (try dsimp only at hSw); go_simp; (try with_reducible rfl))
      try simp only [Act.put, List.setIfInBounds_toArray, List.set_cons_zero, List.set_cons_succ]
      refine wpAnyH_ready (rs := [19]) (by kernel_rfl) (by simp) (AllReadyH.cons rfl (fun K hK => ?_) AllReadyH.nil)
      go_simp
      obtain ⟨W3, hW3⟩ : ∃ W3, W2.alloc (.cells #[.bool r.s.has, .int .i64 r.s.tag, .slice au r.s.l.length cu] 68) = W3 := ⟨_, rfl⟩
      have hc23 : Ch (fun _ => False) W2 W3 := by rw [← hW3]; exact (Ch.refl _ W2).al _
      have hb3 : W3.heap[W2.heap.size]? = some (.cells #[.bool r.s.has, .int .i64 r.s.tag, .slice au r.s.l.length cu] 68 (0, 0)) := by rw [← hW3]; exact World.alloc_heap_new W2 _
      rw [hW3]
      clear hW3
      have hc3 : Ch (fun _ => False) wr W3 := hc2.trans hc23 (fun _ h => h.elim)
      have hu3 : W3.ownsRow 0 3 1 (.slice au r.s.l.length cu) r.s.l.length (r.s.l.map (Value.int .i64)) := ownsRow_keep hu2 (fun k hk => hc23.same k (ownsRow_lt hu2 hk) (fun h => h))
      clear x0 x1 x2
      have x0 := (hc3.cell (p := ⟨g, off + m * 3, none⟩) hgl (fun h => h)).trans d0
      have x1 := (hc3.cell (p := ⟨g, off + m * 3 + 1, none⟩) hgl (fun h => h)).trans d1
      have x2 := (hc3.cell (p := ⟨g, off + m * 3 + 2, none⟩) hgl (fun h => h)).trans d2
      have hrv3 : W3.ownsRow 0 68 3 (.slice av M.length cv) M.length (M.flatMap Rn.cells) := ownsRow_keep HI.out.1.row (fun k hk => hc3.same k (ownsRow_lt HI.out.1.row hk) (fun h => h))
      have hAc : ∀ j u, ([.bool r.s.has, .int .i64 r.s.tag, .slice au r.s.l.length cu] : List Value)[j]? = some u → W3.cell? ((⟨W2.heap.size, 0, none⟩ : Addr).add j) = some u := by
        intro j u hj
        rw [add_cell]
        simp only [World.cell?, hb3]
        simpa using hj
      clear hHeld
      refine hK.out _ _ ?hs (fun hHeld => ?_)
      case hs => (first | trivial | ((try dsimp only); go_keep) | ((try dsimp only); simp [*, World.cell?_alloc_some, World.cell?_setCell_far, World.cell?_setCell_other]))
      clear hK K
      try simp only [Act.put, List.setIfInBounds_toArray, List.set_cons_zero, List.set_cons_succ]
      refine wpAnyH_ready (rs := [20]) (by kernel_rfl) (by simp) (AllReadyH.cons rfl (fun K hK => ?_) AllReadyH.nil)
      refine step_append rfl (.tmp 11) (.tmp 30) 47 rfl 68 (.agg #[.bool false, .int .i64 0, .slice none 0 0]) 3 40 Try.underlying47 Try.infoR rfl (by decide) (.slice av M.length cv) M.length (M.flatMap Rn.cells) (by simp [Act.eval]) hrv3 ⟨W2.heap.size, 0, none⟩ 1 1 [.bool r.s.has, .int .i64 r.s.tag, .slice au r.s.l.length cu] (by simp [Act.eval]) rfl hAc (by simp [Value.oneCell']) (by have := hML.out; unfold maxLen; omega) (by have := hML.out; omega) ?_
      intro v4 W4 hrow4 hg4 hb4
      obtain ⟨g4, cap4, rfl⟩ := ownsRow_succ hrow4
      have hc4 : Ch (fun k => (Value.slice av M.length cv).ownBlock = some k) wr W4 := app_ch hc3 hg4
      have hm4 := app_more hc3 hb4
      have hu4 : W4.ownsRow 0 3 1 (.slice au r.s.l.length cu) r.s.l.length (r.s.l.map (Value.int .i64)) := ownsRow_keep hu3 (fun k hk => hg4.block k (ownsRow_lt hu3 hk) (fun e => by have := ownsRow_lt HI.out.1.row e.symm; have := hun k hk; omega))
      have hgv : ¬ (Value.slice av M.length cv).ownBlock = some g := fun e => hgne e
      clear x0 x1 x2
      have x0 := (hc4.cell (p := ⟨g, off + m * 3, none⟩) hgl hgv).trans d0
      have x1 := (hc4.cell (p := ⟨g, off + m * 3 + 1, none⟩) hgl hgv).trans d1
      have x2 := (hc4.cell (p := ⟨g, off + m * 3 + 2, none⟩) hgl hgv).trans d2
      clear hHeld
      refine hK.out _ _ ?hs (fun hHeld => ?_)
      case hs => (first | trivial | ((try dsimp only); go_keep) | ((try dsimp only); simp [*, World.cell?_alloc_some, World.cell?_setCell_far, World.cell?_setCell_other]))
      clear hK K
      try simp only [Act.put, List.setIfInBounds_toArray, List.set_cons_zero, List.set_cons_succ]
      refine wpAnyH_take (i := 21) (v := ?vvf18) rfl (by kernel_rfl) (by kernel_rfl) (by kernel_rfl) (fun _ _ _ h => h) (Or.inl ⟨by rfl, ?yyf18⟩) (by assumption) ?rrf18
      case yyf18 => (intro w' hSw; (try dsimp only at hSw); go_simp; (try with_reducible rfl))
      try simp only [Act.put, List.setIfInBounds_toArray, List.set_cons_zero, List.set_cons_succ]
      refine wpAnyH_done (by kernel_rfl) ?_ _
      clear hHeld
      have hR4 : RsM W4 (.slice (some ⟨g4, 0, none⟩) (M.length + 1) cap4) (M ++ [⟨.slice au r.s.l.length cu, r.s⟩]) := by
        refine HI.out.1.push hc4 (by simpa [Rn.cells] using hrow4) hm4 hu4 (fun k hk => ?_)
        have hkn := hun k hk
        refine ⟨fun e => ?_, fun e => ?_⟩
        · rcases hb4 with e2 | e2
          · have := ownsRow_lt HI.out.1.row (e2.symm.trans e); omega
          · rw [e2] at e; simp only [Option.some.injEq] at e; have := ownsRow_lt hu3 hk; omega
        · have := HI.out.1.lt e; omega
      have HI2 : Hid (CpIn w W4 (.slice (some ⟨g4, 0, none⟩) (M.length + 1) cap4) L (M ++ [⟨.slice au r.s.l.length cu, r.s⟩]) (m + 1)) := by
        obtain ⟨f1, f2, f3, f4, f5⟩ := HI.out
        refine ⟨hR4, ?_, ?_, ?_, by simp [f5]⟩
        · rw [(take_at hr).2.1, List.map_append, List.map_append, f2]; rfl
        · rintro k (e | ⟨q, hq, e⟩)
          · rcases hm4 k e with e | e
            · exact f3 k (.inl e)
            · have := f4.size; omega
          · rcases List.mem_append.1 hq with hq | hq
            · exact f3 k (.inr ⟨q, hq, e⟩)
            · obtain rfl : q = _ := by simpa using hq
              have := hun k e; have := f4.size; omega
        · exact f4.trans hc4 (fun k hk => .inr (f3 k (.inl hk)))
      clear HI hR4 d0 d1 d2 hrow4 hc4 hm4 hu4 hb4 hu3 hun hRr hru
      go_wp2
      go_roundw
      case rel => exact ⟨m + 1, _, by simp, by omega, HI2⟩
      case measure => simp [intOf]; omega
end Go.Proofs.Ytknjbiineihgfaa
