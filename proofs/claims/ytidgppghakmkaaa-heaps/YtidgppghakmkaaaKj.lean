/-
  Heaps: from its start to its end.
-/
import Derived.Test.YtidgppghakmkaaaKi
set_option linter.unusedVariables false
set_option linter.unusedSimpArgs false
namespace Go.Proofs.Ytidgppghakmkaaa
open Go.RowKit Go.Shelf Hp Go.Sort
attribute [local simp] wide_fn

set_option maxRecDepth 100000 in
set_option maxHeartbeats 16000000 in
theorem Heaps_ok (w : World) (N : Nat) (la : Option Addr) (ln lc : Nat) (hN : N ≤ 1000000) (harg : Arg5 w la ln) :
    Calls Try.prog 3 #[.int .i64 (N : Nat), .slice la ln lc] w fun e w' => e = .returned (.bool true) ∧ Ch (fun _ => False) w w' := by
  have HN := New_ok w N hN
  have h1 : ¬ (N : Int) < 0 := by omega
  have h2 : ¬ 1000000 < (N : Int) := by omega
  have hmk : ∀ W : World, Sem.run Try.prog (Instr.makeSlice 31 (.int .i64 6) (.int .i64 6)) W = .ok (.slice (some ⟨W.heap.size, 0, none⟩) 6 6) (W.alloc (.cells (rowK (fun _ => ⟨false, 0⟩) 6) 43)) := fun W => run_make_cl 6 (by omega) W
  go_enter Try.func3, Try.ntmps3
  go_wp2_with (go_at_call 4; refine HN.mono ?_; clear HN; rintro e w1 ⟨rfl, hm1, hc1⟩; replace hm1 := hid hm1; replace hc1 := hid hc1)
  have hLS0 : LS w (((w1.alloc (.cells #[.int .i64 (N : Nat), .slice none 0 0] 30)).alloc (.cells (rowK (fun _ => ⟨false, 0⟩) 6) 43)).alloc (.cells (rowK (fun _ => ⟨false, 0⟩) 6) 43)) (w.heap.size + 1) w.heap.size N w1.heap.size (w1.heap.size + 1) (w1.heap.size + 1 + 1) [] (fun _ => zeroC) (fun _ => 0) (.slice none 0 0) (fun _ => ⟨false, 0⟩) := by
    have hz := hc1.out.size
    have e1 := (Array.getElem?_eq_some_iff.1 hm1.out.hd).1
    have hca : Ch (fun _ => False) w1 (((w1.alloc (.cells #[.int .i64 (N : Nat), .slice none 0 0] 30)).alloc (.cells (rowK (fun _ => ⟨false, 0⟩) 6) 43)).alloc (.cells (rowK (fun _ => ⟨false, 0⟩) 6) 43)) := (((Ch.refl _ w1).al _).al _).al _
    have hrb : (((w1.alloc (.cells #[.int .i64 (N : Nat), .slice none 0 0] 30)).alloc (.cells (rowK (fun _ => ⟨false, 0⟩) 6) 43)).alloc (.cells (rowK (fun _ => ⟨false, 0⟩) 6) 43)).heap[w1.heap.size]? = some (.cells #[.int .i64 (N : Nat), .slice none 0 0] 30 (0, 0)) := blk_alloc (blk_alloc (World.alloc_heap_new w1 _))
    have own : ∀ k, DOwn w1.heap.size [] (fun _ => 0) (.slice none 0 0) k → k = w1.heap.size := fun k hk => by
      rcases hk with h | h | ⟨i, hi, _⟩
      · exact h
      · simp [Value.ownBlock] at h
      · simp at hi
    refine ⟨hm1.out.keep hca, fun i t ht => (by simp at ht), fun t ht => (by simp at ht), fun i t ht => (by simp at ht), ⟨hrb, ⟨rfl, .inl ⟨rfl, rfl⟩⟩, fun i t ht => (by simp at ht), fun i j hi => (by simp at hi), fun i hi => (by simp at hi), fun i hi => (by simp at hi), (by simp [Value.ownBlock]), (by simp [used]), hN⟩, ?_, ?_, fun i hi hp => (by cases hp), hc1.out.trans hca (fun _ h => h.elim), by omega, fun k hk => (by have := own k hk; omega), by omega, fun k hk => (by have := own k hk; omega)⟩
    · show _ = some (Obj.cells (rowK (fun _ => ⟨false, 0⟩) 6) 43 (0, 0))
      have := World.alloc_heap_new (w1.alloc (.cells #[.int .i64 (N : Nat), .slice none 0 0] 30)) (.cells (rowK (fun _ => ⟨false, 0⟩) 6) 43)
      rw [World.size_alloc] at this
      exact blk_alloc this
    · show _ = some (Obj.cells (rowK (fun _ => ⟨false, 0⟩) 6) 43 (0, 0))
      have := World.alloc_heap_new ((w1.alloc (.cells #[.int .i64 (N : Nat), .slice none 0 0] 30)).alloc (.cells (rowK (fun _ => ⟨false, 0⟩) 6) 43)) (.cells (rowK (fun _ => ⟨false, 0⟩) 6) 43)
      rw [World.size_alloc, World.size_alloc] at this
      exact this
  have hLI0 := hid (show LI _ _ _ _ _ _ _ _ from ⟨_, _, _, _, _, hLS0⟩)
  clear hLS0 hm1 hc1 hmk
  generalize ((w1.alloc (.cells #[.int .i64 (N : Nat), .slice none 0 0] 30)).alloc (.cells (rowK (fun _ => ⟨false, 0⟩) 6) 43)).alloc (.cells (rowK (fun _ => ⟨false, 0⟩) 6) 43) = V0 at hLI0 ⊢
  generalize w1.heap.size + 1 + 1 = cb at hLI0 ⊢
  generalize w1.heap.size + 1 = ca at hLI0 ⊢
  generalize w1.heap.size = rb at hLI0 ⊢
  generalize w.heap.size + 1 = hb at hLI0 ⊢
  generalize w.heap.size = g at hLI0 ⊢
  refine loopH (w := w) (hb := hb) (g := g) (N := N) (rb := rb) (ca := ca) (cb := cb) (la := la) (ln := ln) (lc := lc) harg _ _ _ ?start ?exit
  case start => exact ⟨0, ⟨rfl, rfl, rfl, rfl, rfl, rfl, rfl, rfl⟩, by omega, by omega, hLI0.out⟩
  case exit =>
    rintro a1 w1 ⟨i, hfr, hi1, hi3, T, f, bs, lv, r, hLS⟩
    obtain ⟨F, rfl, hF⟩ := act_open hfr.sz hfr.df
    have f5 := hF 5 _ hfr.e5
    have f7 := hF 7 _ hfr.e7
    have f8 := hF 8 _ hfr.e8
    have f9 := hF 9 _ hfr.e9
    rw [f5, f7, f8, f9]
    clear hF hfr f5 f7 f8 f9 hLI0
    have HA := alike_of hLS
    clear hLS
    go_wp2_with (go_at_call 15; refine HA.mono ?_; clear HA; rintro e9 w9 ⟨rfl, hS9⟩)
    go_ret
    exact ⟨rfl, hS9.ch⟩
theorem Heaps_any (w : World) (cells : Int) (la : Option Addr) (ln lc : Nat) (harg : Arg5 w la ln)  :
    Calls Try.prog 3 #[.int .i64 cells, .slice la ln lc] w fun e w' => e = .returned (.bool true) ∧ Ch (fun _ => False) w w' := by
  by_cases h : cells < 0 ∨ 1000000 < cells
  · exact Heaps_bad w cells la ln lc h
  · obtain ⟨N, rfl⟩ : ∃ N : Nat, cells = (N : Int) := ⟨cells.toNat, by omega⟩
    exact Heaps_ok w N la ln lc (by omega) harg
end Go.Proofs.Ytidgppghakmkaaa
