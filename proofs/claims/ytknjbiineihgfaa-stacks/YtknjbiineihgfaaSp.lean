/-
  The program's Close, where it closes.
-/
import Derived.Test.YtknjbiineihgfaaSk
set_option linter.unusedVariables false
set_option linter.unusedSimpArgs false
namespace Go.Proofs.Ytknjbiineihgfaa
open Go.RowKit

set_option maxHeartbeats 8000000 in
theorem close_yes {D : Nat → Prop} (w : World) (b : Nat) (v : Value) (A : List Sn) (x z : Sn) (hDl : ∀ k, D k → k < w.heap.size) (h : StM D w b 61 v (A ++ [x]) z) (hz : z.s.l = []) (hl : A.length < 1000000) (hcn : cntN (A ++ [x] ++ [z]) < 1000000000) :
    Calls Try.prog 15 #[.pointer (some ⟨b, 0, none⟩)] w fun e w' => e = .returned (.tuple #[.int .i64 z.s.tag, .bool z.s.has, .bool true]) ∧
      ∃ v', StM D w' b 61 v' A x ∧ Ch (own b v) w w' ∧ More w (own b v) (own b v') := by
  obtain ⟨c0, c1, c2, c3, c4, c5, hf⟩ := h.cells
  obtain ⟨g, cap, rfl, hgb, hgl⟩ := h.row_some (by simp)
  have hbl := h.lt
  have hlen : (A ++ [x]).length = A.length + 1 := by simp
  rw [hz] at c2
  have hseg := segments_any w b (A ++ [x]).length _ cap c0 (by omega)
  have hmx : Try.prog.follows .mixedOrders = true := by kernel_rfl
  have hsp : ∀ W, Ch (fun _ => False) w W → Calls Try.prog 30 #[.pointer (some ⟨b, 0, none⟩), .int .i64 ((A.length : Int) + 1)] W fun e w' => ∃ v2, 
      e = .returned (.tuple #[.agg #[.slice (some ⟨g, 0, none⟩) A.length cap, .pointer x.p, .int .i64 x.s.l.length, .int .i64 x.s.tag, .bool x.s.has, .int .i64 (cntN (A ++ [x]) : Nat)], .agg #[v2, .pointer z.p, .int .i64 z.s.l.length, .int .i64 z.s.tag, .bool z.s.has, .int .i64 (cntN [z] : Nat)]]) ∧
      w'.ownsRow 0 57 4 (.slice (some ⟨g, 0, none⟩) A.length cap) A.length (A.flatMap Sn.cells) ∧ (∃ a c, v2 = .slice a 0 c) ∧ Ch (fun k => k = g) W w' := by
    intro W hW
    refine (split_any W b 61 g cap (A ++ [x]) z A.length x ((hW.same b hbl (fun h => h)).trans h.blk) (ownsRow_keep h.row (fun k hk => hW.same k (ownsRow_lt h.row hk) (fun h => h))) hgb (by simp) (by simp) (by omega) hcn).mono ?_
    rintro e w' ⟨v2, h1, h2, h3, h4, h5⟩
    have e1 : (A ++ [x]).take A.length = A := by simp
    have e2 : (A ++ [x]).drop (A.length + 1) = [] := by simp
    rw [e1, e2] at h1
    rw [e1] at h2
    rw [e2] at h3
    obtain ⟨a, c, hv, _⟩ := row_slice h3
    exact ⟨v2, h1, h2, ⟨a, c, hv⟩, h5⟩
  have hB := h.blk
  go_enter Try.func15, Try.ntmps15
  go_upto_region 3 with (go_at_call 22; refine hseg.mono ?_; clear hseg; rintro e w ⟨rfl, rfl⟩; dsimp only)
  rename_i Q9 ht9 K9 hK9
  have tail : ∀ (W6 : World) (A5 A6 : Nat) (E : World) (a2 : Option Addr) (cap2 : Nat) (u1 u2 u3 u4 u7 u8 u9 u10 u11 u12 u13 u14 u15 u16 u17 u18 u19 u20 u21 u22 u23 u24 u25 u26 u27 u28 u29 u30 u31 u32 u33 u34 u35 u36 u37 u38 u39 u40 u41 u42 u43 u44 : Value), W6.ownsRow 0 57 4 (.slice (some ⟨g, 0, none⟩) A.length cap) A.length (A.flatMap Sn.cells) → Ch (fun k => k = g) w W6 →
      Two w.heap.size W6 E A5 A6 #[.slice (some ⟨g, 0, none⟩) A.length cap, .pointer x.p, .int .i64 x.s.l.length, .int .i64 x.s.tag, .bool x.s.has, .int .i64 (cntN (A ++ [x]) : Nat)] #[.slice a2 0 cap2, .pointer z.p, .int .i64 0, .int .i64 z.s.tag, .bool z.s.has, .int .i64 (cntN [z] : Nat)] →
      Exit.then K9 Q9 Exit.normal { tmps := #[.pointer (some ⟨b, 0, none⟩), u1, u2, u3, u4, .pointer (some ⟨A5, 0, none⟩), .pointer (some ⟨A6, 0, none⟩), u7, u8, u9, u10, u11, u12, u13, u14, u15, u16, u17, u18, u19, u20, u21, u22, u23, u24, u25, u26, u27, u28, u29, u30, u31, u32, u33, u34, u35, u36, u37, u38, u39, u40, u41, u42, u43, u44], defers := [] } E := by
    intro W6 A5 A6 E a2 cap2 u1 u2 u3 u4 u7 u8 u9 u10 u11 u12 u13 u14 u15 u16 u17 u18 u19 u20 u21 u22 u23 u24 u25 u26 u27 u28 u29 u30 u31 u32 u33 u34 u35 u36 u37 u38 u39 u40 u41 u42 u43 u44 hrow1 hc6 hT
    have hcE : Ch (fun k => k = g) w E := hc6.trans hT.ch (fun k hk => .inr hk)
    have hbE : E.heap[b]? = some (.cells (rowCells (.slice (some ⟨g, 0, none⟩) (A ++ [x]).length cap) (A ++ [x]) z) 61 (0, 0)) := (hcE.same b hbl (fun e => hgb e.symm)).trans hB
    have hrE : E.ownsRow 0 57 4 (.slice (some ⟨g, 0, none⟩) A.length cap) A.length (A.flatMap Sn.cells) := ownsRow_keep hrow1 (fun k hk => hT.ch.same k (ownsRow_lt hrow1 hk) (by have e2 : some g = some k := hk; cases e2; omega))
    clear c0 c1 c2 c3 c4 c5 hf hsp
    obtain ⟨c0, c1, c2, c3, c4, c5, hf⟩ := row_cells hbE
    obtain ⟨r0, r1, r2, r3, r4, r5, rf⟩ := six_cells hT.h5
    obtain ⟨p0, p1, p2, p3, p4, p5, pf⟩ := six_cells hT.h6
    have hne6 : A6 ≠ b := by have := hT.l6; omega
    have hne7 : b ≠ A6 := by omega
    refine hK9 _ _ ?_
    go_wp2
    go_region
    go_wp2
    refine bodyPost_ret (v := .tuple #[.int .i64 z.s.tag, .bool z.s.has, .bool true]) (by simp [results, Try.results15, go_sem]) rfl ?_
    refine ⟨rfl, _, h.cutrow (n := A.length) hDl hcE hrE rfl (w2 := (set6 E b (.slice (some ⟨g, 0, none⟩) A.length cap) (.pointer x.p) (.int .i64 x.s.l.length) (.int .i64 x.s.tag) (.bool x.s.has) (.int .i64 (cntN (A ++ [x]) : Nat))).drew) (set6_ch (O := fun k => k = b) E _ _ _ _ _ _ rfl).dr ?_ ?_⟩
    · exact set6_at _ _ _ _ _ _ hbE
    · intro y hy; exact List.mem_append.2 (.inl hy)
  replace tail := hid tail
  clear hK9
  go_region_law (go_simp; refine (hsp _ ?hc).mono ?_; (case hc => repeat (first | with_reducible exact Ch.refl _ _ | with_reducible refine Ch.dr ?_ | with_reducible refine Ch.al ?_ _)); rintro e W6 ⟨v2, rfl, hrow1, ⟨a2, cap2, rfl⟩, hc6⟩; (first | (obtain ⟨hA5, hA6, hA7⟩ := al2 hc6 hgl; have hn7 : w.heap.size ≤ W6.heap.size := Nat.le_trans (Nat.le_add_right _ 2) hA7; obtain ⟨r0, r1, r2, r3, r4, r5, rf⟩ := six_cells hA5; obtain ⟨p0, p1, p2, p3, p4, p5, pf⟩ := six_cells hA6) | (obtain ⟨hA5, hA7⟩ := al1 hc6 hgl; have hn7 : w.heap.size ≤ W6.heap.size := Nat.le_of_succ_le hA7; have hA8 : w.heap.size < W6.heap.size := hA7; have hA9 : W6.heap.size ≠ w.heap.size := Nat.ne_of_gt hA8; have hA0 : w.heap.size ≠ W6.heap.size := Nat.ne_of_lt hA8; obtain ⟨r0, r1, r2, r3, r4, r5, rf⟩ := six_cells hA5) | (have hn7 : w.heap.size ≤ W6.heap.size := hc6.size)); dsimp only)
  all_goals
    refine tail.out W6 _ _ _ a2 cap2 _ _ _ _ _ _ _ _ _ _ _ _ _ _ _ _ _ _ _ _ _ _ _ _ _ _ _ _ _ _ _ _ _ _ _ _ _ _ _ _ _ _ hrow1 ?_ ?_
    · refine Ch.trans (Ch.mono (O := fun _ => False) ?_ (fun _ h => h.elim)) hc6 (fun k hk => .inl hk)
      repeat (first | with_reducible exact Ch.refl _ _ | with_reducible refine Ch.dr ?_ | with_reducible refine Ch.al ?_ _)
    · first
        | with_reducible exact Two.a hn7
        | with_reducible exact (Two.a hn7).swap
        | with_reducible exact Two.c hA5 (Nat.le_refl _)
        | with_reducible exact (Two.c hA5 (Nat.le_refl _)).swap
        | with_reducible exact Two.d hA5 hA6 (Nat.le_refl _) (Nat.le_succ _) (by omega)
        | with_reducible exact (Two.d hA5 hA6 (Nat.le_refl _) (Nat.le_succ _) (by omega)).swap
        | with_reducible exact Two.d hA6 hA5 (Nat.le_succ _) (Nat.le_refl _) (by omega)
        | with_reducible exact (Two.d hA6 hA5 (Nat.le_succ _) (Nat.le_refl _) (by omega)).swap
end Go.Proofs.Ytknjbiineihgfaa
