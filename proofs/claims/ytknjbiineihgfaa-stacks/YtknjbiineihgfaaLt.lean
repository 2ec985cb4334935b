/-
  Stacks: from its start to its end.
-/
import Derived.Test.YtknjbiineihgfaaLr
import Derived.Test.YtknjbiineihgfaaLs
set_option linter.unusedVariables false
set_option linter.unusedSimpArgs false
namespace Go.Proofs.Ytknjbiineihgfaa
open Go.RowKit

def g0 (N : Nat) : Gh := { D := fun _ => False, b := fun j => if j then N + 1 else N, v := fun _ => .slice none 0 0, S := fun _ => [], z := fun _ => ⟨none, false, 0, []⟩, c := fun j => if j then N + 6 else N + 4, rv := fun j => if j then .slice (some ⟨N + 5, 0, none⟩) 1 1 else .slice (some ⟨N + 3, 0, none⟩) 1 1, L := fun _ => [⟨.slice none 0 0, false, 0, []⟩], P := [], vp := .slice none 0 0, vq := .slice none 0 0, bs := N + 2, br := N + 7 }
def role0 : Nat → Ro
  | 0 => .st false
  | 1 => .st true
  | 2 => .s
  | 3 => .rt false
  | 4 => .rt false
  | 5 => .rt true
  | 6 => .rt true
  | _ => .r
theorem g0_own (N : Nat) : ∀ ρ k, (g0 N).own ρ k → N ≤ k ∧ k < N + 8 ∧ ρ = role0 (k - N) := by
  intro ρ k h
  cases ρ with
  | d => exact h.elim
  | st j =>
    rcases h with e | e
    · cases j
      · have e2 : k = N := e
        subst e2
        exact ⟨Nat.le_refl _, by omega, by simp [role0]⟩
      · have e2 : k = N + 1 := e
        subst e2
        exact ⟨by omega, by omega, by simp [role0]⟩
    · cases e
  | rt j =>
    rcases h with e | e | ⟨r, hr, e⟩
    · cases j
      · have e2 : k = N + 4 := e
        subst e2
        exact ⟨by omega, by omega, by simp [role0]⟩
      · have e2 : k = N + 6 := e
        subst e2
        exact ⟨by omega, by omega, by simp [role0]⟩
    · cases j
      · have e2 : some (N + 3) = some k := e
        cases e2
        exact ⟨by omega, by omega, by simp [role0]⟩
      · have e2 : some (N + 5) = some k := e
        cases e2
        exact ⟨by omega, by omega, by simp [role0]⟩
    · have hr2 : r ∈ [(⟨.slice none 0 0, false, 0, []⟩ : Rn)] := hr
      obtain rfl : r = _ := by simpa using hr2
      cases e
  | pc i =>
    obtain ⟨x, hx, _⟩ := h
    have hx2 : ([] : List Pc)[i]? = some x := hx
    simp at hx2
  | p => cases h
  | q => cases h
  | s =>
    have e2 : k = N + 2 := h
    subst e2
    exact ⟨by omega, by omega, by simp [role0]⟩
  | r =>
    have e2 : k = N + 7 := h
    subst e2
    exact ⟨by omega, by omega, by simp [role0]⟩
theorem new_at (w : World) (o : Obj) (k : Nat) (h : w.heap.size = k) : (w.alloc o).heap[k]? = some o := by rw [← h]; exact World.alloc_heap_new w o
theorem start_mem (w W : World) (hW : ((((((((w.alloc (.cells #[.slice none 0 0, .pointer none, .int .i64 0, .int .i64 0, .bool false, .int .i64 0] 61)).alloc (.cells #[.slice none 0 0, .pointer none, .int .i64 0, .int .i64 0, .bool false, .int .i64 0] 61)).alloc (.cells #[ptrTo w.heap.size, ptrTo (w.heap.size + 1)] 23)).alloc (.cells #[.bool false, .int .i64 0, .slice none 0 0] 68)).alloc (.cells #[.slice (some ⟨w.heap.size + 3, 0, none⟩) 1 1] 49)).alloc (.cells #[.bool false, .int .i64 0, .slice none 0 0] 68)).alloc (.cells #[.slice (some ⟨w.heap.size + 5, 0, none⟩) 1 1] 49)).alloc (.cells #[ptrTo (w.heap.size + 4), ptrTo (w.heap.size + 6)] 26)) = W) : Mem w (g0 w.heap.size) W := by
  have h0 : W.heap[w.heap.size + 0]? = some (.cells #[.slice none 0 0, .pointer none, .int .i64 0, .int .i64 0, .bool false, .int .i64 0] 61) := by
    rw [← hW]
    exact blk_alloc (blk_alloc (blk_alloc (blk_alloc (blk_alloc (blk_alloc (blk_alloc (new_at _ _ _ (by simp only [World.size_alloc, Nat.add_zero]))))))))
  have h1 : W.heap[w.heap.size + 1]? = some (.cells #[.slice none 0 0, .pointer none, .int .i64 0, .int .i64 0, .bool false, .int .i64 0] 61) := by
    rw [← hW]
    exact blk_alloc (blk_alloc (blk_alloc (blk_alloc (blk_alloc (blk_alloc (new_at _ _ _ (by simp only [World.size_alloc, Nat.add_zero])))))))
  have h2 : W.heap[w.heap.size + 2]? = some (.cells #[ptrTo w.heap.size, ptrTo (w.heap.size + 1)] 23) := by
    rw [← hW]
    exact blk_alloc (blk_alloc (blk_alloc (blk_alloc (blk_alloc (new_at _ _ _ (by simp only [World.size_alloc, Nat.add_zero]))))))
  have h3 : W.heap[w.heap.size + 3]? = some (.cells #[.bool false, .int .i64 0, .slice none 0 0] 68) := by
    rw [← hW]
    exact blk_alloc (blk_alloc (blk_alloc (blk_alloc (new_at _ _ _ (by simp only [World.size_alloc, Nat.add_zero])))))
  have h4 : W.heap[w.heap.size + 4]? = some (.cells #[.slice (some ⟨w.heap.size + 3, 0, none⟩) 1 1] 49) := by
    rw [← hW]
    exact blk_alloc (blk_alloc (blk_alloc (new_at _ _ _ (by simp only [World.size_alloc, Nat.add_zero]))))
  have h5 : W.heap[w.heap.size + 5]? = some (.cells #[.bool false, .int .i64 0, .slice none 0 0] 68) := by
    rw [← hW]
    exact blk_alloc (blk_alloc (new_at _ _ _ (by simp only [World.size_alloc, Nat.add_zero])))
  have h6 : W.heap[w.heap.size + 6]? = some (.cells #[.slice (some ⟨w.heap.size + 5, 0, none⟩) 1 1] 49) := by
    rw [← hW]
    exact blk_alloc (new_at _ _ _ (by simp only [World.size_alloc, Nat.add_zero]))
  have h7 : W.heap[w.heap.size + 7]? = some (.cells #[ptrTo (w.heap.size + 4), ptrTo (w.heap.size + 6)] 26) := by
    rw [← hW]
    exact new_at _ _ _ (by simp only [World.size_alloc, Nat.add_zero])
  have hc : Ch (fun _ => False) w W := by
    rw [← hW]
    exact ((((((((Ch.refl _ w).al _).al _).al _).al _).al _).al _).al _).al _
  have hs : W.heap.size = w.heap.size + 8 := by rw [← hW]; simp
  clear hW
  have hst : ∀ (i : Nat), W.heap[i]? = some (.cells #[.slice none 0 0, .pointer none, .int .i64 0, .int .i64 0, .bool false, .int .i64 0] 61) → StM (fun _ => False) W i 61 (.slice none 0 0) [] ⟨none, false, 0, []⟩ := fun i hi =>
    ⟨hi, World.ownsRow_nil _ _ _ _, fun x hx => by
      obtain rfl : x = _ := by simpa using hx
      rfl, fun k _ h => h, by simp [Value.ownBlock]⟩
  have hrt : ∀ (i d : Nat), i ≠ d → W.heap[d]? = some (.cells #[.bool false, .int .i64 0, .slice none 0 0] 68) → W.heap[i]? = some (.cells #[.slice (some ⟨d, 0, none⟩) 1 1] 49) → RtM W i (.slice (some ⟨d, 0, none⟩) 1 1) [⟨.slice none 0 0, false, 0, []⟩] := fun i d hne hd hi => by
    refine ⟨hi, ⟨⟨rfl, .inr ⟨d, 1, _, rfl, Nat.zero_le _, hd, Nat.le_refl _, by unfold maxLen; omega, rfl, rfl⟩⟩, fun r hr => ?_, by simp, fun r hr k hk => ?_⟩, ?_⟩
    · obtain rfl : r = _ := by simpa using hr
      exact World.ownsRow_nil _ _ _ _
    · obtain rfl : r = _ := by simpa using hr
      cases hk
    · rintro (e | ⟨r, hr, e⟩)
      · have e2 : some d = some i := e
        cases e2
        exact hne rfl
      · obtain rfl : r = _ := by simpa using hr
        cases e
  refine ⟨fun ρ k hk => ?_, fun ρ σ k h1 h2 => ?_, fun ρ k hk => (g0_own _ ρ k hk).1, hc, fun j => ?_, fun j => ?_, fun x hx => ?_, fun x hx => ?_, World.ownsRow_nil _ _ _ _, World.ownsRow_nil _ _ _ _, h2, h7⟩
  · have := (g0_own _ ρ k hk).2.1; omega
  · rw [(g0_own _ ρ k h1).2.2, (g0_own _ σ k h2).2.2]
  · cases j
    · exact hst _ h0
    · exact hst _ h1
  · cases j
    · exact hrt (w.heap.size + 4) (w.heap.size + 3) (by omega) h3 h4
    · exact hrt (w.heap.size + 6) (w.heap.size + 5) (by omega) h5 h6
  · have hx2 : x ∈ ([] : List Pc) := hx
    simp at hx2
  · have hx2 : x ∈ ([] : List Pc) := hx
    simp at hx2
theorem start_pl (N : Nat) : Pl (g0 N) 0 :=
  ⟨fun j => ⟨Nat.le_refl _, Nat.le_refl _, ⟨_, _, rfl, rfl⟩⟩, fun j => rfl, fun x hx => by
    have hx2 : x ∈ ([] : List Pc) := hx
    simp at hx2, fun x hx => by
    have hx2 : x ∈ ([] : List Pc) := hx
    simp at hx2, Nat.le_refl _⟩

set_option maxRecDepth 100000 in
set_option maxHeartbeats 8000000 in
theorem Stacks_any (w : World) (la : Option Addr) (ln lc : Nat) (harg : Arg w la ln) :
    Calls Try.prog 3 #[.slice la ln lc] w fun e w' => e = .returned (.bool true) ∧ Ch (fun _ => False) w w' := by
  have hmx : Try.prog.follows .mixedOrders = true := by kernel_rfl
  go_enter Try.func3, Try.ntmps3
  go_wp2_with (first
    | (go_at_call 4; refine (new_any _).mono ?_; rintro e w9 ⟨rfl, rfl⟩; dsimp only)
    | (go_at_call 5; refine (rnew_any _).mono ?_; rintro e w9 ⟨rfl, rfl⟩; dsimp only))
  refine loopA (w0 := w) (la := la) (ln := ln) (lc := lc) harg _ _ _ ?start (fun c a a' w hd h => ⟨hd.symm.trans h.1, h.2⟩) ?exit
  case start =>
    exact ⟨g0 w.heap.size, 0, 0, ⟨⟨rfl, rfl, rfl, rfl, rfl, rfl, rfl, rfl, rfl⟩, start_mem w _ rfl, start_pl _, by omega, by omega, by omega⟩⟩
  case exit =>
    rintro a1 w1 ⟨g, m, t, hI⟩
    have hmem := hI.mem
    have hpl := hI.pl
    have hm1 := hI.m1
    have hfr := hI.fr
    clear hI
    obtain ⟨F, rfl, hF⟩ := act_open hfr.sz hfr.df
    have f3 := hF 3 _ hfr.e3
    have f4 := hF 4 _ hfr.e4
    have f5 := hF 5 _ hfr.e5
    have f6 := hF 6 _ hfr.e6
    clear hF hfr
    go_wp2
    refine loopC (w0 := w) (g := g) (m := m) (s := F 3) (r := F 4) _ hmem hpl hm1 _ ?startC (fun c a a' w hd h => ⟨hd.symm.trans h.1, h.2⟩) ?exitC
    case startC => exact ⟨rfl, rfl, rfl, rfl, congrArg some f5, congrArg some f6, rfl⟩
    case exitC =>
      rintro a2 w2 hf2 hm2
      obtain ⟨G, rfl, hG⟩ := act_open hf2.sz hf2.df
      have g3 := (hG 3 _ hf2.e3).trans f3
      have g4 := (hG 4 _ hf2.e4).trans f4
      rw [g3, g4]
      clear hG hf2 g3 g4 f3 f4 f5 f6
      have hmd := hm2.quiet (Ch.drew (fun _ => False) w2)
      have hal0 := hmd.alike hpl (by omega) false
      have c0 : w2.drew.cell? ⟨g.bs, 0, none⟩ = some (.pointer (some ⟨g.b false, 0, none⟩)) := by have := hmd.bs; simp only [World.cell?, this]; rfl
      have c1 : w2.drew.cell? ⟨g.br, 0, none⟩ = some (.pointer (some ⟨g.c false, 0, none⟩)) := by have := hmd.br; simp only [World.cell?, this]; rfl
      have c2 : w2.drew.cell? ⟨g.bs, 1, none⟩ = some (.pointer (some ⟨g.b true, 0, none⟩)) := by have := hmd.bs; simp only [World.cell?, this]; rfl
      have c3 : w2.drew.cell? ⟨g.br, 1, none⟩ = some (.pointer (some ⟨g.c true, 0, none⟩)) := by have := hmd.br; simp only [World.cell?, this]; rfl
      go_upto_region 71 with (fail)
      refine wp_region_held_drew (S := (fun w' => w'.cell? ⟨g.bs, 0, none⟩ = some (.pointer (some ⟨g.b false, 0, none⟩)) ∧ w'.cell? ⟨g.br, 0, none⟩ = some (.pointer (some ⟨g.c false, 0, none⟩)) ∧ w'.cell? ⟨g.bs, 1, none⟩ = some (.pointer (some ⟨g.b true, 0, none⟩)) ∧ w'.cell? ⟨g.br, 1, none⟩ = some (.pointer (some ⟨g.c true, 0, none⟩)))) (by kernel_rfl) (by first | trivial | ((try dsimp only); go_keep)) (fun hHeld => ?_)
      refine wpAnyH_take (i := 0) (v := ?vvs901) rfl (by kernel_rfl) (by kernel_rfl) (by kernel_rfl) (fun _ _ _ h => h) (Or.inl ⟨by rfl, ?yys901⟩) (by assumption) ?rrs901
      case yys901 => (intro w' hSw; (try dsimp only at hSw); go_simp; (try with_reducible rfl))
      try simp only [Act.put, List.setIfInBounds_toArray, List.set_cons_zero, List.set_cons_succ]
      refine wpAnyH_take (i := 1) (v := ?vvs902) rfl (by kernel_rfl) (by kernel_rfl) (by kernel_rfl) (fun _ _ _ h => h) (Or.inl ⟨by rfl, ?yys902⟩) (by assumption) ?rrs902
      case yys902 => (intro w' hSw; (try dsimp only at hSw); go_simp; (try with_reducible rfl))
      try simp only [Act.put, List.setIfInBounds_toArray, List.set_cons_zero, List.set_cons_succ]
      refine wpAnyH_take (i := 2) (v := ?vvs903) rfl (by kernel_rfl) (by kernel_rfl) (by kernel_rfl) (fun _ _ _ h => h) (Or.inl ⟨by rfl, ?yys903⟩) (by assumption) ?rrs903
      case yys903 => (intro w' hSw; (try dsimp only at hSw); go_simp; (try with_reducible rfl))
      try simp only [Act.put, List.setIfInBounds_toArray, List.set_cons_zero, List.set_cons_succ]
      refine wpAnyH_take (i := 3) (v := ?vvs904) rfl (by kernel_rfl) (by kernel_rfl) (by kernel_rfl) (fun _ _ _ h => h) (Or.inl ⟨by rfl, ?yys904⟩) (by assumption) ?rrs904
      case yys904 => (intro w' hSw; (try dsimp only at hSw); go_simp; (try with_reducible rfl))
      try simp only [Act.put, List.setIfInBounds_toArray, List.set_cons_zero, List.set_cons_succ]
      refine wpAnyH_take (i := 4) (v := ?vvs905) rfl (by kernel_rfl) (by kernel_rfl) (by kernel_rfl) (fun _ _ _ h => h) (Or.inl ⟨by rfl, ?yys905⟩) (by assumption) ?rrs905
      case yys905 => (intro w' hSw; (try dsimp only at hSw); go_simp; (try with_reducible rfl))
      try simp only [Act.put, List.setIfInBounds_toArray, List.set_cons_zero, List.set_cons_succ]
      refine wpAnyH_take (i := 5) (v := ?vvs906) rfl (by kernel_rfl) (by kernel_rfl) (by kernel_rfl) (fun _ _ _ h => h) (Or.inl ⟨by rfl, ?yys906⟩) (by assumption) ?rrs906
      case yys906 => (intro w' hSw; (try dsimp only at hSw); go_simp; (try with_reducible rfl))
      try simp only [Act.put, List.setIfInBounds_toArray, List.set_cons_zero, List.set_cons_succ]
      refine wpAnyH_ready (rs := [6]) (by kernel_rfl) (by simp) (AllReadyH.cons rfl (fun K hK => ?_) AllReadyH.nil)
      go_simp
      refine hal0.mono ?_
      clear hal0
      rintro e w9 ⟨rfl, hc9⟩
      have k0 := (hc9.cell (p := ⟨g.bs, 0, none⟩) (block_lt_of_cell c0) (fun h => h)).trans c0
      have k1 := (hc9.cell (p := ⟨g.br, 0, none⟩) (block_lt_of_cell c1) (fun h => h)).trans c1
      have k2 := (hc9.cell (p := ⟨g.bs, 1, none⟩) (block_lt_of_cell c2) (fun h => h)).trans c2
      have k3 := (hc9.cell (p := ⟨g.br, 1, none⟩) (block_lt_of_cell c3) (fun h => h)).trans c3
      have hm9 := hmd.quiet hc9
      have hal1 := hm9.alike hpl (by omega) true
      dsimp only
      clear hHeld
      refine hK.out _ _ ?hs (fun hHeld => ?_)
      case hs => (first | trivial | ((try dsimp only); go_keep) | ((try dsimp only); simp [*, World.cell?_alloc_some, World.cell?_setCell_far, World.cell?_setCell_other]))
      clear hK K
      try simp only [Act.put, List.setIfInBounds_toArray, List.set_cons_zero, List.set_cons_succ]
      refine wpAnyH_take (i := 7) (v := ?vvs907) rfl (by kernel_rfl) (by kernel_rfl) (by kernel_rfl) (fun _ _ _ h => h) (Or.inl ⟨by rfl, ?yys907⟩) (by assumption) ?rrs907
      case yys907 => (intro w' hSw; (try dsimp only at hSw); go_simp; (try with_reducible rfl))
      try simp only [Act.put, List.setIfInBounds_toArray, List.set_cons_zero, List.set_cons_succ]
      refine wpAnyH_take (i := 8) (v := ?vvs908) rfl (by kernel_rfl) (by kernel_rfl) (by kernel_rfl) (fun _ _ _ h => h) (Or.inl ⟨by simp [Region.wanted, yielded], ?yys908⟩) (by assumption) ?rrs908
      case yys908 => (intro w' hSw; (try dsimp only at hSw); go_simp; (try with_reducible rfl))
      try simp only [Act.put, List.setIfInBounds_toArray, List.set_cons_zero, List.set_cons_succ]
      refine wpAnyH_take (i := 9) (v := ?vvs909) rfl (by kernel_rfl) (by kernel_rfl) (by kernel_rfl) (fun _ _ _ h => h) (Or.inl ⟨by simp [Region.wanted, yielded], ?yys909⟩) (by assumption) ?rrs909
      case yys909 => (intro w' hSw; (try dsimp only at hSw); go_simp; (try with_reducible rfl))
      try simp only [Act.put, List.setIfInBounds_toArray, List.set_cons_zero, List.set_cons_succ]
      refine wpAnyH_take (i := 10) (v := ?vvs910) rfl (by kernel_rfl) (by kernel_rfl) (by kernel_rfl) (fun _ _ _ h => h) (Or.inl ⟨by simp [Region.wanted, yielded], ?yys910⟩) (by assumption) ?rrs910
      case yys910 => (intro w' hSw; (try dsimp only at hSw); go_simp; (try with_reducible rfl))
      try simp only [Act.put, List.setIfInBounds_toArray, List.set_cons_zero, List.set_cons_succ]
      refine wpAnyH_take (i := 11) (v := ?vvs911) rfl (by kernel_rfl) (by kernel_rfl) (by kernel_rfl) (fun _ _ _ h => h) (Or.inl ⟨by simp [Region.wanted, yielded], ?yys911⟩) (by assumption) ?rrs911
      case yys911 => (intro w' hSw; (try dsimp only at hSw); go_simp; (try with_reducible rfl))
      try simp only [Act.put, List.setIfInBounds_toArray, List.set_cons_zero, List.set_cons_succ]
      refine wpAnyH_take (i := 12) (v := ?vvs912) rfl (by kernel_rfl) (by kernel_rfl) (by kernel_rfl) (fun _ _ _ h => h) (Or.inl ⟨by simp [Region.wanted, yielded], ?yys912⟩) (by assumption) ?rrs912
      case yys912 => (intro w' hSw; (try dsimp only at hSw); go_simp; (try with_reducible rfl))
      try simp only [Act.put, List.setIfInBounds_toArray, List.set_cons_zero, List.set_cons_succ]
      refine wpAnyH_take (i := 13) (v := ?vvs913) rfl (by kernel_rfl) (by kernel_rfl) (by kernel_rfl) (fun _ _ _ h => h) (Or.inl ⟨by simp [Region.wanted, yielded], ?yys913⟩) (by assumption) ?rrs913
      case yys913 => (intro w' hSw; (try dsimp only at hSw); go_simp; (try with_reducible rfl))
      try simp only [Act.put, List.setIfInBounds_toArray, List.set_cons_zero, List.set_cons_succ]
      refine wpAnyH_ready (rs := [14]) (by kernel_rfl) (by simp) (AllReadyH.cons rfl (fun K hK => ?_) AllReadyH.nil)
      go_simp
      refine hal1.mono ?_
      clear hal1
      rintro e w8 ⟨rfl, hc8⟩
      have l0 := (hc8.cell (p := ⟨g.bs, 0, none⟩) (block_lt_of_cell k0) (fun h => h)).trans k0
      have l1 := (hc8.cell (p := ⟨g.br, 0, none⟩) (block_lt_of_cell k1) (fun h => h)).trans k1
      have l2 := (hc8.cell (p := ⟨g.bs, 1, none⟩) (block_lt_of_cell k2) (fun h => h)).trans k2
      have l3 := (hc8.cell (p := ⟨g.br, 1, none⟩) (block_lt_of_cell k3) (fun h => h)).trans k3
      dsimp only
      clear hHeld
      refine hK.out _ _ ?hs (fun hHeld => ?_)
      case hs => (first | trivial | ((try dsimp only); go_keep) | ((try dsimp only); simp [*, World.cell?_alloc_some, World.cell?_setCell_far, World.cell?_setCell_other]))
      clear hK K
      try simp only [Act.put, List.setIfInBounds_toArray, List.set_cons_zero, List.set_cons_succ]
      refine wpAnyH_take (i := 15) (v := ?vvs914) rfl (by kernel_rfl) (by kernel_rfl) (by kernel_rfl) (fun _ _ _ h => h) (Or.inl ⟨by rfl, ?yys914⟩) (by assumption) ?rrs914
      case yys914 => (intro w' hSw; (try dsimp only at hSw); go_simp; (try with_reducible rfl))
      try simp only [Act.put, List.setIfInBounds_toArray, List.set_cons_zero, List.set_cons_succ]
      refine wpAnyH_take (i := 16) (v := ?vvs915) rfl (by kernel_rfl) (by kernel_rfl) (by kernel_rfl) (fun _ _ _ h => h) (Or.inl ⟨by rfl, ?yys915⟩) (by assumption) ?rrs915
      case yys915 => (intro w' hSw; (try dsimp only at hSw); go_simp; (try with_reducible rfl))
      try simp only [Act.put, List.setIfInBounds_toArray, List.set_cons_zero, List.set_cons_succ]
      simp only [Act.put, List.getElem_toArray, List.getElem_cons_succ, List.getElem_cons_zero, List.setIfInBounds_toArray, List.set_cons_zero, List.set_cons_succ]
      refine wpAnyH_done (by kernel_rfl) ?_ _
      clear hHeld
      go_wp2
      go_ret
      refine ⟨?_, (hm9.quiet hc8).ch⟩
      first
        | rfl
        | simp [Act.put]
        | (trace_state; fail)
end Go.Proofs.Ytknjbiineihgfaa
