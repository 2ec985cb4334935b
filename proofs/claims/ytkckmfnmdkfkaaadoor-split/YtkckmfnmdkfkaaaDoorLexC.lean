/-
  What the program's span, isWord and textToken answer.
-/
import Derived.Test.YtkckmfnmdkfkaaaDoorLexB
namespace Go.Proofs.YtkckmfnmdkfkaaaDoor
open Go.RowKit

theorem isWd_mem {s : ByteArray} {x : List UInt8} (hx : Lx.isWd x = true) (h : (s.toList == x) = true) : true = Lx.isWd s.data.toList := by
  rw [toList_data, eq_of_beq h, hx]

set_option maxRecDepth 100000 in
set_option maxHeartbeats 2000000 in
theorem lisWord_any (s : ByteArray) (w : World) :
    Calls Tryd.prog 20 #[.string s] w fun e w' => e = .returned (.bool (Lx.isWd s.data.toList)) ∧ w' = w := by
  go_enter Tryd.func20, Tryd.ntmps20
  go_wp2
  all_goals
    go_ret
    refine ⟨ret_bool ?_, rfl⟩
    first
      | (simp only [Lx.isWd, Lx.wordList, toList_data, List.contains_cons, List.contains_nil, Bool.or_false, Bool.or_true, Bool.true_or, *]; done)
      | (exfalso; simp_all; done)

set_option maxHeartbeats 1000000 in
theorem clone_any (s : ByteArray) (w : World) (hs : s.size ≤ 3000) :
    Calls Tryd.prog 32 #[.string s] w fun e w' => e = .returned (.string s) ∧ Below w.heap.size w w' := by
  go_enter Tryd.func32, Tryd.ntmps32
  go_wp2_with (go_at_call 43; refine (Tryd.stringslite_Clone _ _ (by omega)).mono ?_; rintro e w1 ⟨rfl, hb⟩)
  go_ret
  exact ⟨rfl, hb⟩

/-- The four cells of a struct that the call has laid, behind a call that turns nothing below. -/
theorem four_cells {w w2 : World} {a0 a1 a2 a3 : Value} {e1 : TypeId} (hb : Below (w.alloc (.cells #[a0, a1, a2, a3] e1)).heap.size (w.alloc (.cells #[a0, a1, a2, a3] e1)) w2) :
    (w2.cell? ⟨w.heap.size, 0, none⟩ = some a0 ∧ w2.cell? ⟨w.heap.size, 1, none⟩ = some a1 ∧ w2.cell? ⟨w.heap.size, 2, none⟩ = some a2 ∧ w2.cell? ⟨w.heap.size, 3, none⟩ = some a3) ∧
    (w2.frozen? ⟨w.heap.size, 0, none⟩ = false ∧ w2.frozen? ⟨w.heap.size, 1, none⟩ = false ∧ w2.frozen? ⟨w.heap.size, 2, none⟩ = false ∧ w2.frozen? ⟨w.heap.size, 3, none⟩ = false) := by
  obtain ⟨hc, hf⟩ := bcell hb
  refine ⟨⟨(hc _ _ (by simp)).trans (by simp), (hc _ _ (by simp)).trans (by simp), (hc _ _ (by simp)).trans (by simp), (hc _ _ (by simp)).trans (by simp)⟩,
    ⟨(hf _ _ (by simp)).trans (by simp), (hf _ _ (by simp)).trans (by simp), (hf _ _ (by simp)).trans (by simp), (hf _ _ (by simp)).trans (by simp)⟩⟩
theorem below_one {w w2 : World} {o : Obj} (hb : Below (w.alloc o).heap.size (w.alloc o) w2) : Below w.heap.size w w2 :=
  ((Below.refl _ _).alloc (Nat.le_refl _) _).trans (hb.mono (by simp))
theorem below_four {w w2 : World} (hb : Below w.heap.size w w2) (v0 v1 v2 v3 : Value) :
    Below w.heap.size w ((((w2.setCell ⟨w.heap.size, 0, none⟩ v0).setCell ⟨w.heap.size, 1, none⟩ v1).setCell ⟨w.heap.size, 2, none⟩ v2).setCell ⟨w.heap.size, 3, none⟩ v3) :=
  (((hb.setCell (Nat.le_refl _) _).setCell (Nat.le_refl _) _).setCell (Nat.le_refl _) _).setCell (Nat.le_refl _) _

set_option maxRecDepth 100000 in
set_option maxHeartbeats 1000000 in
theorem textToken_any (kd : Int) (s : ByteArray) (w : World) (hs : s.size ≤ 3000) :
    Calls Tryd.prog 21 #[.int .i64 kd, .string s] w fun e w' => e = .returned (.agg #[.int .i64 kd, .int .i64 0, .string s, .int .i64 0]) ∧ Below w.heap.size w w' := by
  go_enter Tryd.func21, Tryd.ntmps21
  go_wp2_with (go_at_call 32; refine (clone_any _ _ hs).mono ?_; rintro e w1 ⟨rfl, hb⟩; obtain ⟨⟨c0, c1, c2, c3⟩, f0, f1, f2, f3⟩ := four_cells hb; have HB := hid (below_one hb); clear hb)
  refine bodyPost_ret (v := .agg #[.int .i64 kd, .int .i64 0, .string s, .int .i64 0]) (by simp [results, Tryd.results21, go_sem, c0, c1, c2, c3]) rfl ⟨rfl, below_four HB.out _ _ _ _⟩
end Go.Proofs.YtkckmfnmdkfkaaaDoor
