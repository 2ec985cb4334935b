/-
  The document's small functions of chapter 11: flag, fits, Form, big.
-/
import Derived.Test.YtkfjjkpphpakbaaBa
set_option linter.unusedVariables false
set_option linter.unusedSimpArgs false
namespace Go.Proofs.Ytkfjjkpphpakbaa
open Go.RowKit

theorem flag_any (b : Bool) (w : World) :
    Calls Try.prog 11 #[.bool b] w fun e w' => e = .returned (.string ⟨(Cd.flag b).toArray⟩) ∧ w' = w := by
  go_enter Try.func11, Try.ntmps11
  cases b
  all_goals
    go_wp2
    go_ret
    exact ⟨rfl, rfl⟩

theorem fits_any (v m : Int) (w : World) :
    Calls Try.prog 12 #[.int .i64 v, .int .i64 m] w fun e w' => e = .returned (.bool (Cd.fits v m)) ∧ w' = w := by
  go_enter Try.func12, Try.ntmps12
  go_wp2
  all_goals
    go_ret
    refine ⟨ret_bool ?_, rfl⟩
    unfold Cd.fits
    rw [Bool.eq_iff_iff]
    simp
    omega

/-- The row that big fills from behind: the last ones stand. -/
def BigIn (w wr : World) (v u : Int) (n k : Nat) : Prop :=
  Below w.heap.size w wr ∧ ∃ l : List UInt8, Cd.big v n = Cd.big u k ++ l ∧ k + l.length = n ∧ wr.rowIs w.heap.size 5 n (fun j => if j < k then .int .u8 0 else .int .u8 ((l.getD (j - k) 0).toNat : Int))
theorem BigIn.step {w wr : World} {v u : Int} {n k : Nat} (h : BigIn w wr v u n (k + 1)) : BigIn w (wr.setCell ⟨w.heap.size, k, none⟩ (.int .u8 (u % 256))) v (u / 256) n k := by
  obtain ⟨hb, l, h1, h2, h3⟩ := h
  refine ⟨hb.setCell (Nat.le_refl _) _, Cd.low u :: l, by rw [h1, Cd.big]; simp, by simp at h2 ⊢; omega, (h3.set k _).congr ?_⟩
  intro j hj
  by_cases e : j = k
  · subst e
    simp [low_int]
  · rw [if_neg e]
    by_cases h4 : j < k
    · rw [if_pos (by omega), if_pos h4]
    · rw [if_neg (by omega), if_neg h4]
      have : j - k = (j - (k + 1)) + 1 := by omega
      rw [this]
      simp

set_option maxHeartbeats 2000000 in
theorem big_any (v : Int) (n : Nat) (w : World) (hn : n ≤ 8) :
    Calls Try.prog 10 #[.int .i64 v, .int .i64 n] w fun e w' => e = .returned (.string ⟨(Cd.big v n).toArray⟩) ∧ Below w.heap.size w w' := by
  go_enter Try.func10, Try.ntmps10
  have hmk := run_make_row' (P := Try.prog) 40 5 (.int .u8 0) 1 Try.underlying40 Try.info5 rfl .i64 .i64 n (by omega) (by omega)
  have hand := i64_and255
  go_wp2
  have HB : Hid (BigIn w (w.alloc (.cells (madeCells #[.int .u8 0] n) 5)) v v n n) := by
    refine ⟨(Below.refl _ _).alloc (Nat.le_refl _) _, [], by simp, by simp, (World.rowIs_made w _ n 5).congr ?_⟩
    intro j hj
    rw [if_pos hj]
  generalize hW : w.alloc (.cells (madeCells #[.int .u8 0] n) 5) = W at HB
  go_loopw [0, 6] (fun t i wr => ∃ (u : Int) (k : Nat), t = .int .i64 u ∧ i = .int .i64 ((k : Int) - 1) ∧ k ≤ n ∧ Hid (BigIn w wr v u n k)) (fun _ i _ => (intOf i + 1).toNat)
  case atStart => exact ⟨v, n, rfl, by go_num, Nat.le_refl _, HB⟩
  case round =>
    obtain ⟨u, k, rfl, rfl, hk, HI⟩ := hrel
    obtain ⟨hbl, l, hl1, hl2, hrow⟩ := HI.out
    cases k with
    | zero =>
      have e : l.length = n := by omega
      have hcv := run_convert_bytes_back (P := Try.prog) wr 40 9 5 ⟨w.heap.size, 0, none⟩ n l Try.underlying40 Try.underlying5 Try.underlying9 (fun j hj => by
        rw [show (⟨w.heap.size, 0, none⟩ : Addr).add j = ⟨w.heap.size, j, none⟩ by simp [Addr.add]; omega]
        rw [hrow.cell (by omega), if_neg (by omega)]
        simp [hj])
      rw [e] at hcv
      have hl : Cd.big v n = l := by rw [hl1]; simp [Cd.big]
      clear hrow hl1
      go_wp2
      go_ret
      exact ⟨by rw [hl]; rfl, hbl⟩
    | succ k =>
      have HI2 := hid HI.out.step
      have hc : wr.cell? ⟨w.heap.size, k, none⟩ = some (.int .u8 0) := by rw [hrow.cell (by omega)]; simp
      have hf := hrow.frozen k
      clear hrow hl1
      go_wp2
      go_roundw
      case rel => exact ⟨_, k, rfl, rfl, by omega, HI2⟩
      case measure => simp [intOf]
end Go.Proofs.Ytkfjjkpphpakbaa
