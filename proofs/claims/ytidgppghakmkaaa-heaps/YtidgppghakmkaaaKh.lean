/-
  A root is stored on the document's side first, then on the program's.
-/
import Derived.Test.YtidgppghakmkaaaKg
set_option linter.unusedVariables false
set_option linter.unusedSimpArgs false
namespace Go.Proofs.Ytidgppghakmkaaa
open Go.RowKit Go.Shelf Hp Go.Sort

theorem LS.rootb {w wr : World} {hb g N rb ca cb : Nat} {T : List Th} {f : Nat → PC} {bs : Nat → Nat} {lv : Value} {r : Nat → Cl} (h : LS w wr hb g N rb ca cb T f bs lv r) {i : Nat} (hi : i < 6) (c : Cl) (hc : c.ptr = true → ∃ k, Is T c.n k) {Z : World} (hZ : (wr.setCell ⟨cb, i * 2, none⟩ (.bool c.ptr)).setCell ⟨cb, i * 2 + 1, none⟩ (.int .i64 c.n) = Z) :
    HM Z hb g N f (used T) ∧ RtsM Z ca r ∧ ∀ W, Ch (fun _ => False) Z W → RtsM W ca r ∧ LS w ((W.setCell ⟨ca, i * 2, none⟩ (.bool c.ptr)).setCell ⟨ca, i * 2 + 1, none⟩ (.int .i64 c.n)) hb g N rb ca cb T f bs lv (fun j => if j = i then c else r j) := by
  obtain ⟨l1, l2, l3, l4⟩ := h.lo
  obtain ⟨n1, n2, n3, n4, n5⟩ := h.ne
  have hch1 : Ch (fun k => k = ca ∨ k = cb) wr Z := by
    rw [← hZ]
    exact (Ch.setCell (O := fun k => k = ca ∨ k = cb) wr ⟨cb, i * 2, none⟩ _ (.inr rfl)).set (a := ⟨cb, i * 2 + 1, none⟩) (.inr rfl) _
  have hB : RtsM Z cb (fun j => if j = i then c else r j) := by rw [← hZ]; exact h.rc.put hi c
  have hA : RtsM Z ca r := by rw [← hZ]; exact blk_other (blk_other h.ra n3) n3
  refine ⟨⟨(hch1.same hb (Array.getElem?_eq_some_iff.1 h.hm.hd).1 (by omega)).trans h.hm.hd, (hch1.same g (Array.getElem?_eq_some_iff.1 h.hm.row).1 (by omega)).trans h.hm.row, h.hm.ne, h.hm.le, h.hm.max⟩, hA, fun W hW => ?_⟩
  have hA1 : RtsM W ca r := (hW.same ca (Array.getElem?_eq_some_iff.1 hA).1 (fun h => h)).trans hA
  have hB1 : RtsM W cb (fun j => if j = i then c else r j) := (hW.same cb (Array.getElem?_eq_some_iff.1 hB).1 (fun h => h)).trans hB
  have hch : Ch (fun k => k = ca ∨ k = cb) wr ((W.setCell ⟨ca, i * 2, none⟩ (.bool c.ptr)).setCell ⟨ca, i * 2 + 1, none⟩ (.int .i64 c.n)) :=
    ((hch1.trans hW (fun _ h => h.elim)).set (a := ⟨ca, i * 2, none⟩) (.inl rfl) _).set (a := ⟨ca, i * 2 + 1, none⟩) (.inl rfl) _
  refine ⟨hA1, ⟨(hch.same hb (Array.getElem?_eq_some_iff.1 h.hm.hd).1 (by omega)).trans h.hm.hd, (hch.same g (Array.getElem?_eq_some_iff.1 h.hm.row).1 (by omega)).trans h.hm.row, h.hm.ne, h.hm.le, h.hm.max⟩, h.ly, h.ok, h.wf, h.dm.keep (fun k hk => hch.same k (h.dm.lt hk) (by have := h.no k hk; omega)), hA1.put hi c, blk_other (blk_other hB1 (Ne.symm n3)) (Ne.symm n3), fun j hj hp => ?_, h.ch.trans hch (fun k hk => .inr (by omega)), h.lo, h.ow, h.ne, h.no⟩
  by_cases e : j = i
  · subst e
    simp only [if_true] at hp ⊢
    exact hc hp
  · simp only [e, if_false] at hp ⊢
    exact h.rv j hj hp
end Go.Proofs.Ytidgppghakmkaaa
