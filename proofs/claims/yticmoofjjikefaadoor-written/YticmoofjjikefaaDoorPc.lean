/-
  The program's writer in memory: plain, fits, number, text, flag, instruction.
-/
import Derived.Test.YticmoofjjikefaaDoorPb
set_option linter.unusedVariables false
set_option linter.unusedSimpArgs false
namespace Go.Proofs.YticmoofjjikefaaDoor
open Go.RowKit Go.Lib

def ZP (Z : Nat → Prop) (w : World) (p : Nat) (v : Value) : Prop := ∀ k, Z k → k < w.heap.size ∧ k ≠ p ∧ v.ownBlock ≠ some k
theorem WM.row_at {w : World} {p : Nat} {v : Value} {s : Cd.WSt} (h : WM w p v s) (hs : s.1.length ≤ 4000000) : ByRow w 0 v s.1 := by
  obtain ⟨l, hr, hm, he⟩ := h.row
  rw [← he hs]
  exact hr
/-- The writer's cells are set. -/
theorem kz_set {Z : Nat → Prop} {w w' : World} {p i : Nat} {x : Value} (h : Kz Z w w') (hz : ∀ k, Z k → k ≠ p) : Kz Z w (w'.setCell ⟨p, i, none⟩ x) :=
  ⟨h.os, h.tape, h.output, by have := h.size; simpa using this, fun k hk hk2 => (Below.heap_setCell w' _ _ k (fun e => hz k hk2 e)).trans (h.same k hk hk2)⟩
theorem WM.app {Z : Nat → Prop} {w w2 : World} {p : Nat} {v v2 : Value} {s : Cd.WSt} {l : List UInt8} (h : WM w p v s) (hz : ZP Z w p v) (hs : s.1.length + l.length ≤ 4000000) (hr : ByRow w2 0 v2 (s.1 ++ l)) (hg : w.grownBy w2 v.ownBlock) (hat : v2.ownBlock = v.ownBlock ∨ v2.ownBlock = some w.heap.size) :
    WM (w2.setCell ⟨p, 0, none⟩ v2) p v2 (s.1 ++ l, s.2) ∧ ZP Z (w2.setCell ⟨p, 0, none⟩ v2) p v2 ∧ Kz Z w (w2.setCell ⟨p, 0, none⟩ v2) := by
  have hp := h.lt
  have hb2 : w2.heap[p]? = some (.cells #[v, .bool s.2, .bool (decide (4000000 < s.1.length))] 69 (0, 0)) := (hg.block p hp (fun e => h.ne e.symm)).trans h.blk
  have hne : v2.ownBlock ≠ some p := by
    rcases hat with e | e
    · rw [e]; exact h.ne
    · rw [e]; intro h2; cases h2; omega
  have hsz : w.heap.size ≤ (w2.setCell ⟨p, 0, none⟩ v2).heap.size := by have := hg.size; simpa using this
  refine ⟨⟨?_, ⟨s.1 ++ l, hr.keepB (fun k hk => Below.heap_setCell w2 _ _ k (fun e => hne (by rw [hk, e]))), by simp; omega, fun _ => rfl⟩, hne⟩, fun k hk => ?_, ?_⟩
  · rw [setCell_eq_setRow w2 p 0 _ _ _ _ hb2, setRow_heap w2 p _ _ _ _ hb2]
    have e1 : decide (4000000 < s.1.length) = false := by simp; omega
    have e2 : decide (4000000 < (s.1 ++ l).length) = false := by simp; omega
    show _ = some (Obj.cells #[v2, .bool s.2, .bool (decide (4000000 < (s.1 ++ l).length))] _ _)
    rw [e1, e2]
    rfl
  · obtain ⟨a, b, c⟩ := hz k hk
    refine ⟨by omega, b, ?_⟩
    rcases hat with e | e
    · rw [e]; exact c
    · rw [e]; intro h2; cases h2; omega
  · exact kz_set (Kz.grown hg (fun k hk e => (hz k hk).2.2 e.symm)) (fun k hk => (hz k hk).2.1)
theorem WM.far {Z : Nat → Prop} {w w1 : World} {p : Nat} {v : Value} (hg : w.grownBy w1 (some p)) (hz : ZP Z w p v) : ZP Z w1 p v ∧ Kz Z w w1 :=
  ⟨fun k hk => ⟨Nat.lt_of_lt_of_le (hz k hk).1 hg.size, (hz k hk).2⟩, Kz.grown hg (fun k hk e => (hz k hk).2.1 (by cases e; rfl))⟩

set_option maxHeartbeats 1000000 in
theorem plain_any (Z : Nat → Prop) (w : World) (p : Nat) (s : Cd.WSt) (l : List UInt8) (h : WK Z w p s) (hl : l.length ≤ 65535) :
    Calls Tryd.prog 32 #[ptrV p, .string ⟨l.toArray⟩] w (WPost Z w p (Cd.wplain l s)) := by
  obtain ⟨v, hm, hz⟩ := h
  have HR := hid (room_any w p v s l.length hm hl)
  have hsz := size_mk l
  have HZ := hid hz
  clear hm hz
  unfold ptrV at HR ⊢
  by_cases hy : s.1.length + l.length ≤ 4000000
  · have hyd : decide (s.1.length + l.length ≤ 4000000) = true := by simpa using hy
    go_enter Tryd.func32, Tryd.ntmps32
    go_wp2_with (first
      | (go_at_call 51; refine HR.out.mono ?_; clear HR; rintro en w1 ⟨rfl, h1, _, hg⟩
         rw [hyd]
         replace h1 := h1 hy
         obtain ⟨c0, c1, c2, hf⟩ := h1.cells
         obtain ⟨hz1, hk1⟩ := WM.far hg HZ.out
         have hr1 := h1.row_at (by omega)
         replace h1 := hid h1
         replace hz1 := hid hz1
         replace hk1 := hid hk1
         replace hr1 := hid hr1)
      | (at_builtin; refine wpList_bytes_str rfl _ _ rfl 0 v s.1 ⟨l.toArray⟩ rfl rfl hr1.out (Nat.zero_le _) (by rw [size_mk]; omega) ?_
         intro v2 w2 hr2 hb2 hg2 hat2
         have hp2 : w2.cell? ⟨p, 0, none⟩ = some v := (World.cell?_of_block (hg2.block p h1.out.lt (fun e => h1.out.ne e.symm))).trans c0
         have hf2 : w2.frozen? ⟨p, 0, none⟩ = false := (World.frozen?_of_block (hg2.block p h1.out.lt (fun e => h1.out.ne e.symm))).trans (hf 0)
         obtain ⟨g2, cap2, rfl, _⟩ := hr2.cell
         replace hr2 := hid hr2
         replace hg2 := hid hg2
         replace hat2 := hid hat2
         clear hb2 c0 c1 c2 hf)
      | go_in)
    refine bodyPost_end (results_none rfl _ _ _) rfl ⟨rfl, ?_⟩
    obtain ⟨a, b, c⟩ := h1.out.app hz1.out hy hr2.out hg2.out hat2.out
    rw [List.length_append] at a b c
    exact ⟨⟨_, a, b⟩, hk1.out.trans c⟩
  · have hyd : decide (s.1.length + l.length ≤ 4000000) = false := by simpa using hy
    go_enter Tryd.func32, Tryd.ntmps32
    go_wp2_with (first
      | (go_at_call 51; refine HR.out.mono ?_; clear HR; rintro en w1 ⟨rfl, _, h1, hg⟩
         rw [hyd]
         replace h1 := hid (h1 hy l rfl)
         replace hg := hid hg)
      | go_in)
    refine bodyPost_end (results_none rfl _ _ _) rfl ⟨rfl, ?_⟩
    obtain ⟨hz1, hk1⟩ := WM.far hg.out HZ.out
    exact ⟨⟨v, h1.out, hz1⟩, hk1⟩
end Go.Proofs.YticmoofjjikefaaDoor
