/-
  The document's Put.
-/
import Derived.Test.YtknjbiineihgfaaRd
set_option linter.unusedVariables false
set_option linter.unusedSimpArgs false
namespace Go.Proofs.Ytknjbiineihgfaa
open Go.RowKit

theorem rone (w : World) (M : List Rn) (hus : ∀ r ∈ M, w.ownsRow 0 3 1 r.u r.s.l.length (r.s.l.map (Value.int .i64))) : ∀ q ∈ M.flatMap Rn.cells, q.oneCell' = true := by
  intro q hq
  obtain ⟨r, hr, hq⟩ := List.mem_flatMap.1 hq
  obtain ⟨a, c, e, _⟩ := row_slice (hus r hr)
  exact rcells_one r (by rw [e]; rfl) q hq

set_option maxHeartbeats 8000000 in
theorem rput_any (w : World) (c : Nat) (v : Value) (L : List Rn) (h : RtM w c v L) (hL : L.length < 1000000) (g off cap : Nat) (S : List Rn) (hR : RdS w g off S) (hS : S.length < 1000000) (hS0 : 0 < S.length) (hl : ∀ r ∈ S, r.s.l.length < 1000000000) (hcap : S.length ≤ cap) :
    Calls Try.prog 24 #[.pointer (some ⟨c, 0, none⟩), .slice (some ⟨g, off, none⟩) S.length cap] w fun e w' => e = .returned (.tuple #[]) ∧ ∃ v' M, RtM w' c v' (L ++ M) ∧ M.map Rn.s = S.map Rn.s ∧ Ch (rtown c v L) w w' ∧ More w (rtown c v L) (rtown c v' (L ++ M)) := by
  obtain ⟨h0, hf0⟩ := h.cell
  have hcl : c < w.heap.size := h.lt (.inl rfl)
  have hrow := h.rs.row
  obtain ⟨a, cp, rfl, _⟩ := row_slice hrow
  have hvc : (Value.slice a L.length cp).ownBlock ≠ some c := fun e => h.nc (.inl e)
  have hmx : Try.prog.follows .mixedOrders = true := by kernel_rfl
  have hcopy := copied_any w.drew g off cap S (hR.same (Ch.drew _ _)) (by omega) hl hcap
  have h0d : w.drew.cell? ⟨c, 0, none⟩ = some (.slice a L.length cp) := h0
  go_enter Try.func24, Try.ntmps24
  go_upto_region 0 with (fail)
  refine wp_region_held_drew (S := (fun _ => True)) (by kernel_rfl) (by first | trivial | ((try dsimp only); go_keep)) (fun hHeld => ?_)
  refine wpAnyH_take (i := 0) (v := ?vvg1) rfl (by kernel_rfl) (by kernel_rfl) (by kernel_rfl) (fun _ _ _ h => h) (Or.inl ⟨by rfl, ?yyg1⟩) (by assumption) ?rrg1
  case yyg1 => (intro w' hSw; (try dsimp only at hSw); go_simp; (try with_reducible rfl))
  try simp only [Act.put, List.setIfInBounds_toArray, List.set_cons_zero, List.set_cons_succ]
  refine wpAnyH_take (i := 1) (v := ?vvg2) rfl (by kernel_rfl) (by kernel_rfl) (by kernel_rfl) (fun _ _ _ h => h) (Or.inl ⟨by rfl, ?yyg2⟩) (by assumption) ?rrg2
  case yyg2 => (intro w' hSw; (try dsimp only at hSw); go_simp; (try with_reducible rfl))
  try simp only [Act.put, List.setIfInBounds_toArray, List.set_cons_zero, List.set_cons_succ]
  refine wpAnyH_take (i := 2) (v := ?vvg3) rfl (by kernel_rfl) (by kernel_rfl) (by kernel_rfl) (fun _ _ _ h => h) (Or.inl ⟨by rfl, ?yyg3⟩) (by assumption) ?rrg3
  case yyg3 => (intro w' hSw; (try dsimp only at hSw); go_simp; (try with_reducible rfl))
  try simp only [Act.put, List.setIfInBounds_toArray, List.set_cons_zero, List.set_cons_succ]
  refine wpAnyH_take (i := 3) (v := ?vvg4) rfl (by kernel_rfl) (by kernel_rfl) (by kernel_rfl) (fun _ _ _ h => h) (Or.inl ⟨by rfl, ?yyg4⟩) (by assumption) ?rrg4
  case yyg4 => (intro w' hSw; (try dsimp only at hSw); go_simp; (try with_reducible rfl))
  try simp only [Act.put, List.setIfInBounds_toArray, List.set_cons_zero, List.set_cons_succ]
  refine wpAnyH_take (i := 5) (v := ?vvg5) rfl (by kernel_rfl) (by kernel_rfl) (by kernel_rfl) (fun _ _ _ h => h) (Or.inl ⟨by rfl, ?yyg5⟩) (by assumption) ?rrg5
  case yyg5 => (intro w' hSw; (try dsimp only at hSw); go_simp; (try with_reducible rfl))
  try simp only [Act.put, List.setIfInBounds_toArray, List.set_cons_zero, List.set_cons_succ]
  refine wpAnyH_ready (rs := [4, 6]) (by kernel_rfl) (by simp) (AllReadyH.cons rfl (fun K hK => ?_) (AllReadyH.cons rfl (fun K hK => ?_) AllReadyH.nil))
  · go_simp
    clear hHeld
    refine hK.out _ _ ?hs (fun hHeld => ?_)
    case hs => (first | trivial | ((try dsimp only); go_keep) | ((try dsimp only); simp [*, World.cell?_alloc_some, World.cell?_setCell_far, World.cell?_setCell_other]))
    clear hK K
    try simp only [Act.put, List.setIfInBounds_toArray, List.set_cons_zero, List.set_cons_succ]
    refine wpAnyH_ready (rs := [6]) (by kernel_rfl) (by simp) (AllReadyH.cons rfl (fun K hK => ?_) AllReadyH.nil)
    go_simp
    refine hcopy.mono ?_
    clear hcopy
    rintro e W1 ⟨v2, M, rfl, hM, hMs, hnew, hc1⟩
    have hMl1 : M.length < 1000000 := by have := congrArg List.length hMs; simp at this; omega
    obtain ⟨g2, cap2, rfl, _⟩ := hM.form (by have := congrArg List.length hMs; simp at this; omega)
    have hc1' : Ch (fun _ => False) w W1 := (Ch.drew _ w).trans hc1 (fun _ h => .inl h)
    have x0 : W1.cell? ⟨c, 0, none⟩ = some (.slice a L.length cp) := (hc1'.cell (p := ⟨c, 0, none⟩) hcl (fun h => h)).trans h0
    have hrv : W1.ownsRow 0 68 3 (.slice a L.length cp) L.length (L.flatMap Rn.cells) := ownsRow_keep hrow (fun k hk => hc1'.same k (ownsRow_lt hrow hk) (fun h => h))
    dsimp only
    clear hHeld
    refine hK.out _ _ ?hs (fun hHeld => ?_)
    case hs => (first | trivial | ((try dsimp only); go_keep) | ((try dsimp only); simp [*, World.cell?_alloc_some, World.cell?_setCell_far, World.cell?_setCell_other]))
    clear hK K
    try simp only [Act.put, List.setIfInBounds_toArray, List.set_cons_zero, List.set_cons_succ]
    refine wpAnyH_ready (rs := [7]) (by kernel_rfl) (by simp) (AllReadyH.cons rfl (fun K hK => ?_) AllReadyH.nil)
    refine step_append rfl (.tmp 8) (.tmp 10) 47 rfl 68 (.agg #[.bool false, .int .i64 0, .slice none 0 0]) 3 40 Try.underlying47 Try.infoR rfl (by decide) (.slice a L.length cp) L.length (L.flatMap Rn.cells) (by simp [Act.eval]) hrv ⟨g2, 0, none⟩ M.length cap2 (M.flatMap Rn.cells) (by simp [Act.eval]) (rflat_len M) (by intro j u hj; rw [add_cell]; exact row_cell hM.row j u hj) (rone W1 M hM.us) (by unfold maxLen; omega) (by omega) ?_
    intro v3 W2 hrow2 hg2 hb2
    obtain ⟨a3, cap3, rfl, _⟩ := row_slice hrow2
    have hc2 : Ch (fun k => (Value.slice a L.length cp).ownBlock = some k) w W2 := app_ch hc1' hg2
    have hm2 := app_more hc1' hb2
    have y0 : W2.cell? ⟨c, 0, none⟩ = some (.slice a L.length cp) := (hc2.cell (p := ⟨c, 0, none⟩) hcl hvc).trans h0
    have yf : W2.frozen? ⟨c, 0, none⟩ = false := (hc2.frozen (p := ⟨c, 0, none⟩) hcl hvc).trans hf0
    have hus2 : ∀ r ∈ M, W2.ownsRow 0 3 1 r.u r.s.l.length (r.s.l.map (Value.int .i64)) := fun r hr => ownsRow_keep (hM.us r hr) (fun k hk => hg2.block k (ownsRow_lt (hM.us r hr) hk) (fun e => by have e1 := ownsRow_lt hrow e.symm; have e2 : w.heap.size ≤ k := hnew k (.inr ⟨r, hr, hk⟩); omega))
    have hnw2 : ∀ r ∈ M, ∀ k, r.u.ownBlock = some k → w.heap.size ≤ k ∧ (Value.slice a3 (L.length + M.length) cap3).ownBlock ≠ some k := fun r hr k hk => by
      have e2 : w.heap.size ≤ k := hnew k (.inr ⟨r, hr, hk⟩)
      refine ⟨e2, fun e => ?_⟩
      rcases hb2 with e3 | e3
      · have e1 := ownsRow_lt hrow (e3.symm.trans e); omega
      · rw [e3] at e
        simp only [Option.some.injEq] at e
        have e1 := ownsRow_lt (hM.us r hr) hk
        omega
    clear hHeld
    refine hK.out _ _ ?hs (fun hHeld => ?_)
    case hs => (first | trivial | ((try dsimp only); go_keep) | ((try dsimp only); simp [*, World.cell?_alloc_some, World.cell?_setCell_far, World.cell?_setCell_other]))
    clear hK K
    try simp only [Act.put, List.setIfInBounds_toArray, List.set_cons_zero, List.set_cons_succ]
    refine wpAnyH_take (i := 8) (v := ?vvg6) rfl (by kernel_rfl) (by kernel_rfl) (by kernel_rfl) (fun _ _ _ h => h) (Or.inl ⟨by rfl, ?yyg6⟩) (by assumption) ?rrg6
    case yyg6 => (intro w' hSw; (try dsimp only at hSw); go_simp; (try with_reducible rfl))
    try simp only [Act.put, List.setIfInBounds_toArray, List.set_cons_zero, List.set_cons_succ]
    refine wpAnyH_take (i := 9) (v := ?vvg7) rfl (by kernel_rfl) (by kernel_rfl) (by kernel_rfl) (fun _ _ _ h => h) (Or.inl ⟨by rfl, ?yyg7⟩) (by assumption) ?rrg7
    case yyg7 => (intro w' hSw; (try dsimp only at hSw); go_simp; (try with_reducible rfl))
    try simp only [Act.put, List.setIfInBounds_toArray, List.set_cons_zero, List.set_cons_succ]
    refine wpAnyH_ready (rs := [10]) (by kernel_rfl) (by simp) (AllReadyH.cons rfl (fun K hK => ?_) AllReadyH.nil)
    go_simp
    clear hHeld
    refine hK.out _ _ ?hs (fun hHeld => ?_)
    case hs => (first | trivial | ((try dsimp only); go_keep) | ((try dsimp only); simp [*, World.cell?_alloc_some, World.cell?_setCell_far, World.cell?_setCell_other]))
    clear hK K
    try simp only [Act.put, List.setIfInBounds_toArray, List.set_cons_zero, List.set_cons_succ]
    refine wpAnyH_done (by kernel_rfl) ?_ _
    clear hHeld
    go_wp2
    go_end0
    obtain ⟨f1, f2, f3⟩ := h.append (v' := .slice a3 (L.length + M.length) cap3) (M := M) hc2 (by simpa using hrow2) hm2 hus2 hnw2 hM.ds
    exact ⟨rfl, _, M, f1, hMs, f2, f3⟩
  · go_simp
    refine hcopy.mono ?_
    clear hcopy
    rintro e W1 ⟨v2, M, rfl, hM, hMs, hnew, hc1⟩
    have hMl1 : M.length < 1000000 := by have := congrArg List.length hMs; simp at this; omega
    obtain ⟨g2, cap2, rfl, _⟩ := hM.form (by have := congrArg List.length hMs; simp at this; omega)
    have hc1' : Ch (fun _ => False) w W1 := (Ch.drew _ w).trans hc1 (fun _ h => .inl h)
    have x0 : W1.cell? ⟨c, 0, none⟩ = some (.slice a L.length cp) := (hc1'.cell (p := ⟨c, 0, none⟩) hcl (fun h => h)).trans h0
    have hrv : W1.ownsRow 0 68 3 (.slice a L.length cp) L.length (L.flatMap Rn.cells) := ownsRow_keep hrow (fun k hk => hc1'.same k (ownsRow_lt hrow hk) (fun h => h))
    dsimp only
    clear hHeld
    refine hK.out _ _ ?hs (fun hHeld => ?_)
    case hs => (first | trivial | ((try dsimp only); go_keep) | ((try dsimp only); simp [*, World.cell?_alloc_some, World.cell?_setCell_far, World.cell?_setCell_other]))
    clear hK K
    try simp only [Act.put, List.setIfInBounds_toArray, List.set_cons_zero, List.set_cons_succ]
    refine wpAnyH_ready (rs := [4]) (by kernel_rfl) (by simp) (AllReadyH.cons rfl (fun K hK => ?_) AllReadyH.nil)
    go_simp
    clear hHeld
    refine hK.out _ _ ?hs (fun hHeld => ?_)
    case hs => (first | trivial | ((try dsimp only); go_keep) | ((try dsimp only); simp [*, World.cell?_alloc_some, World.cell?_setCell_far, World.cell?_setCell_other]))
    clear hK K
    try simp only [Act.put, List.setIfInBounds_toArray, List.set_cons_zero, List.set_cons_succ]
    refine wpAnyH_ready (rs := [7]) (by kernel_rfl) (by simp) (AllReadyH.cons rfl (fun K hK => ?_) AllReadyH.nil)
    refine step_append rfl (.tmp 8) (.tmp 10) 47 rfl 68 (.agg #[.bool false, .int .i64 0, .slice none 0 0]) 3 40 Try.underlying47 Try.infoR rfl (by decide) (.slice a L.length cp) L.length (L.flatMap Rn.cells) (by simp [Act.eval]) hrv ⟨g2, 0, none⟩ M.length cap2 (M.flatMap Rn.cells) (by simp [Act.eval]) (rflat_len M) (by intro j u hj; rw [add_cell]; exact row_cell hM.row j u hj) (rone W1 M hM.us) (by unfold maxLen; omega) (by omega) ?_
    intro v3 W2 hrow2 hg2 hb2
    obtain ⟨a3, cap3, rfl, _⟩ := row_slice hrow2
    have hc2 : Ch (fun k => (Value.slice a L.length cp).ownBlock = some k) w W2 := app_ch hc1' hg2
    have hm2 := app_more hc1' hb2
    have y0 : W2.cell? ⟨c, 0, none⟩ = some (.slice a L.length cp) := (hc2.cell (p := ⟨c, 0, none⟩) hcl hvc).trans h0
    have yf : W2.frozen? ⟨c, 0, none⟩ = false := (hc2.frozen (p := ⟨c, 0, none⟩) hcl hvc).trans hf0
    have hus2 : ∀ r ∈ M, W2.ownsRow 0 3 1 r.u r.s.l.length (r.s.l.map (Value.int .i64)) := fun r hr => ownsRow_keep (hM.us r hr) (fun k hk => hg2.block k (ownsRow_lt (hM.us r hr) hk) (fun e => by have e1 := ownsRow_lt hrow e.symm; have e2 : w.heap.size ≤ k := hnew k (.inr ⟨r, hr, hk⟩); omega))
    have hnw2 : ∀ r ∈ M, ∀ k, r.u.ownBlock = some k → w.heap.size ≤ k ∧ (Value.slice a3 (L.length + M.length) cap3).ownBlock ≠ some k := fun r hr k hk => by
      have e2 : w.heap.size ≤ k := hnew k (.inr ⟨r, hr, hk⟩)
      refine ⟨e2, fun e => ?_⟩
      rcases hb2 with e3 | e3
      · have e1 := ownsRow_lt hrow (e3.symm.trans e); omega
      · rw [e3] at e
        simp only [Option.some.injEq] at e
        have e1 := ownsRow_lt (hM.us r hr) hk
        omega
    clear hHeld
    refine hK.out _ _ ?hs (fun hHeld => ?_)
    case hs => (first | trivial | ((try dsimp only); go_keep) | ((try dsimp only); simp [*, World.cell?_alloc_some, World.cell?_setCell_far, World.cell?_setCell_other]))
    clear hK K
    try simp only [Act.put, List.setIfInBounds_toArray, List.set_cons_zero, List.set_cons_succ]
    refine wpAnyH_take (i := 8) (v := ?vvg8) rfl (by kernel_rfl) (by kernel_rfl) (by kernel_rfl) (fun _ _ _ h => h) (Or.inl ⟨by rfl, ?yyg8⟩) (by assumption) ?rrg8
    case yyg8 => (intro w' hSw; (try dsimp only at hSw); go_simp; (try with_reducible rfl))
    try simp only [Act.put, List.setIfInBounds_toArray, List.set_cons_zero, List.set_cons_succ]
    refine wpAnyH_take (i := 9) (v := ?vvg9) rfl (by kernel_rfl) (by kernel_rfl) (by kernel_rfl) (fun _ _ _ h => h) (Or.inl ⟨by rfl, ?yyg9⟩) (by assumption) ?rrg9
    case yyg9 => (intro w' hSw; (try dsimp only at hSw); go_simp; (try with_reducible rfl))
    try simp only [Act.put, List.setIfInBounds_toArray, List.set_cons_zero, List.set_cons_succ]
    refine wpAnyH_ready (rs := [10]) (by kernel_rfl) (by simp) (AllReadyH.cons rfl (fun K hK => ?_) AllReadyH.nil)
    go_simp
    clear hHeld
    refine hK.out _ _ ?hs (fun hHeld => ?_)
    case hs => (first | trivial | ((try dsimp only); go_keep) | ((try dsimp only); simp [*, World.cell?_alloc_some, World.cell?_setCell_far, World.cell?_setCell_other]))
    clear hK K
    try simp only [Act.put, List.setIfInBounds_toArray, List.set_cons_zero, List.set_cons_succ]
    refine wpAnyH_done (by kernel_rfl) ?_ _
    clear hHeld
    go_wp2
    go_end0
    obtain ⟨f1, f2, f3⟩ := h.append (v' := .slice a3 (L.length + M.length) cap3) (M := M) hc2 (by simpa using hrow2) hm2 hus2 hnw2 hM.ds
    exact ⟨rfl, _, M, f1, hMs, f2, f3⟩
end Go.Proofs.Ytknjbiineihgfaa
