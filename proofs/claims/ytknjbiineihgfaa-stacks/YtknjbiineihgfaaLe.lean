/-
  What a stack and a piece of the program tell.
-/
import Derived.Test.YtknjbiineihgfaaLd
set_option linter.unusedVariables false
set_option linter.unusedSimpArgs false
namespace Go.Proofs.Ytknjbiineihgfaa
open Go.RowKit

theorem StM.tells {D : Nat → Prop} {w : World} {b : Nat} {v : Value} {S : List Sn} {z : Sn} (h : StM D w b 61 v S z) (hDl : ∀ k, D k → k < w.heap.size) (hn : S.length < 1000000) (hc : cntN (S ++ [z]) < 1000000000) : Tells w b ((S ++ [z]).map Sn.s) 21 22 37 38 := by
  obtain ⟨a, cap, g, rfl, hR⟩ := h.rowAt (W := w) (fun _ _ => rfl) h.blk
  refine tells_row (fun k hk => ?_) hR hn hc (fun W => All_any W b) (fun W => Tags_any W b) (fun W c hc => len_any W b c hc) (fun W n a cap h1 h2 => segments_any W b n a cap h1 h2)
  rcases hk with e | e | e
  · exact hDl k e
  · exact h.own_lt (.inr e)
  · rw [e]; exact h.lt
theorem PcM.tells {D : Nat → Prop} {w : World} {b : Nat} {v : Value} {S : List Sn} {z : Sn} (h : PcM D w b v S z) (hDl : ∀ k, D k → k < w.heap.size) (hn : S.length < 1000000) (hc : cntN (S ++ [z]) < 1000000000) : Tells w b ((S ++ [z]).map Sn.s) 39 40 41 42 := by
  have hrow := h.row
  obtain ⟨a, cap, rfl, ha, _⟩ := row_slice hrow
  obtain ⟨c0, c1, c2, c3, c4, c5, hf⟩ := row_cells h.blk
  obtain ⟨g, hg⟩ : ∃ g, S.length = 0 ∨ a = some ⟨g, 0, none⟩ := by
    rcases ha with h0 | ⟨g, h0⟩
    · exact ⟨0, .inl h0⟩
    · exact ⟨g, .inr h0⟩
  have hR : RowAt D w b S z a cap g (cntN (S ++ [z]) : Nat) := by
    refine ⟨c0, hg, ⟨c1, c2, c3, c4⟩, c5, fun i x hx => ?_, h.ch, h.din b (.inl rfl), hg.imp_right (fun e => by subst e; exact h.din g (.inr rfl))⟩
    have hi : i < S.length := (List.getElem?_eq_some_iff.1 hx).1
    rcases hg with h0 | rfl
    · omega
    · exact ⟨row_cell hrow _ _ ((flat_get S i 0 x hx (by decide)).trans rfl), row_cell hrow _ _ ((flat_get S i 1 x hx (by decide)).trans rfl), row_cell hrow _ _ ((flat_get S i 2 x hx (by decide)).trans rfl), row_cell hrow _ _ ((flat_get S i 3 x hx (by decide)).trans rfl)⟩
  exact tells_row hDl hR hn hc (fun W => pAll_any W b) (fun W => pTags_any W b) (fun W c hc => pLen_any W b c hc) (fun W n a cap h1 h2 => pSegments_any W b n a cap h1 h2)
end Go.Proofs.Ytknjbiineihgfaa
