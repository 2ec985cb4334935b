/-
  What the statement's Same answers at two rows that hold the same tokens.
-/
import Derived.Test.YtkckmfnmdkfkaaaDoorRefD
namespace Go.Proofs.YtkckmfnmdkfkaaaDoor
open Go.RowKit

theorem cells_get : ∀ (ts : List Lx.Tk) (k j : Nat) (h : k < ts.length), j < 4 → (cellsOf ts)[k * 4 + j]? = (tkCells ts[k])[j]? := by
  intro ts
  induction ts with
  | nil => intro k j h; simp at h
  | cons t ts ih =>
    intro k j h hj
    have e : cellsOf (t :: ts) = tkCells t ++ cellsOf ts := by simp [cellsOf]
    have hl : (tkCells t).length = 4 := rfl
    rw [e]
    cases k with
    | zero =>
      rw [Nat.zero_mul, Nat.zero_add, List.getElem?_append_left (by omega)]
      rfl
    | succ k =>
      rw [List.getElem?_append_right (by omega), hl, show (k + 1) * 4 + j - 4 = k * 4 + j by omega]
      exact ih k j (by simpa using h) hj

/-- A token of a row, cell by cell. -/
theorem row_cells {w : World} {base g n cap : Nat} {ts : List Lx.Tk} (h : w.ownsRow base 31 4 (.slice (some ⟨g, 0, none⟩) n cap) n (cellsOf ts)) (hn : n = ts.length) (k : Nat) (hk : k < ts.length) :
    w.cell? ⟨g, k * 4, none⟩ = some (.int .i64 ts[k].kind) ∧ w.cell? ⟨g, k * 4 + 1, none⟩ = some (.int .i64 ts[k].pos) ∧ w.cell? ⟨g, k * 4 + 2, none⟩ = some (.string ⟨ts[k].text.toArray⟩) ∧ w.cell? ⟨g, k * 4 + 3, none⟩ = some (.int .i64 ts[k].num) := by
  have hc : ∀ j, j < 4 → w.cell? ⟨g, k * 4 + j, none⟩ = (tkCells ts[k])[j]? := fun j hj => by
    rw [h.cellAt (k * 4 + j) (by omega), cells_get ts k j hk hj]
  exact ⟨hc 0 (by omega), hc 1 (by omega), hc 2 (by omega), hc 3 (by omega)⟩

theorem forms {w : World} {base size n : Nat} {e : TypeId} {v : Value} {xs : List Value} (h : w.ownsRow base e size v n xs) : (v = .slice none 0 0 ∧ n = 0) ∨ ∃ g cap, v = .slice (some ⟨g, 0, none⟩) n cap := by
  rcases h.2 with h | ⟨g, cap, cur, hv, _⟩
  · exact .inl h
  · exact .inr ⟨g, cap, hv⟩

set_option maxRecDepth 100000 in
set_option maxHeartbeats 1000000 in
theorem same_any (ts : List Lx.Tk) (b1 b2 : Nat) (v1 v2 : Value) (w : World) (h1 : w.ownsRow b1 31 4 v1 ts.length (cellsOf ts)) (h2 : w.ownsRow b2 31 4 v2 ts.length (cellsOf ts)) (hl : ts.length ≤ 3001) :
    Calls Tryd.prog 7 #[v1, v2] w fun e w' => e = .returned (.bool true) ∧ ∃ n, w' = w.drewN n := by
  by_cases hz : ts.length = 0
  · rw [hz] at h1 h2
    rcases forms h1 with ⟨rfl, _⟩ | ⟨g1, c1, rfl⟩ <;> rcases forms h2 with ⟨rfl, _⟩ | ⟨g2, c2, rfl⟩
    all_goals
      clear h1 h2 hz hl
      go_enter Tryd.func7, Tryd.ntmps7
      go_wp2
      refine wp_loop_rounds 1 ?_
      rw [rounds_succ]
      go_wp2
      go_ret
      exact ⟨rfl, 0, rfl⟩
  · rcases forms h1 with ⟨_, h⟩ | ⟨g1, c1, rfl⟩
    · exact absurd h hz
    · rcases forms h2 with ⟨_, h⟩ | ⟨g2, c2, rfl⟩
      · exact absurd h hz
      · have H1 := hid h1
        have H2 := hid h2
        obtain ⟨n, hn⟩ : ∃ n, n = ts.length := ⟨_, rfl⟩
        rw [← hn] at hl hz ⊢
        have HN := hid hn
        clear h1 h2 hn
        go_enter Tryd.func7, Tryd.ntmps7
        go_wp2
        go_loopw [5] (fun t wr => ∃ k nq : Nat, t = .int .i64 k ∧ k ≤ n ∧ wr = w.drewN nq) (fun t _ => n - (intOf t).toNat)
        case atStart => exact ⟨0, 0, rfl, Nat.zero_le _, rfl⟩
        case round =>
          obtain ⟨k, nq, rfl, hk, rfl⟩ := hrel
          by_cases hlt : k < n
          · have hlt2 : k < ts.length := by rw [← HN.out]; exact hlt
            obtain ⟨a0, a1, a2, a3⟩ := row_cells H1.out rfl k hlt2
            obtain ⟨b0, b1, b2, b3⟩ := row_cells H2.out rfl k hlt2
            go_wp2_with fail
            go_quiet (fail)
            go_wp2
            go_roundw
            case rel => exact ⟨k + 1, _, by go_num, by omega, rfl⟩
            case measure => simp [intOf]; omega
          · go_wp2
            go_ret
            exact ⟨rfl, nq, rfl⟩
end Go.Proofs.YtkckmfnmdkfkaaaDoor
