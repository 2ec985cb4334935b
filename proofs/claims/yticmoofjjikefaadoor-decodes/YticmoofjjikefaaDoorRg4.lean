/-
  The program's reader: a code, for every text.
-/
import Derived.Test.YticmoofjjikefaaDoorRg3
set_option linter.unusedVariables false
set_option linter.unusedSimpArgs false
namespace Go.Proofs.YticmoofjjikefaaDoor
open Go.RowKit Go.Lib

theorem head_ok {s : List UInt8} (h : (Cd.Rd.head s 3 (Cd.Rd.at_ 3)).fk = 0) : Cd.Rd.head s 3 (Cd.Rd.at_ 3) = Cd.Rd.at_ 3 ∧ 3 ≤ s.length := by
  rcases s with _ | ⟨x, _ | ⟨y, _ | ⟨z, l⟩⟩⟩
  · simp [Cd.Rd.head, Cd.head, Cd.Rd.no, Cd.Rd.at_] at h
  · by_cases hx : x = 69 <;> simp [Cd.Rd.head, Cd.head, Cd.Rd.no, Cd.Rd.at_, hx] at h
  · by_cases hx : x = 69 <;> by_cases hy : y = 70 <;> simp [Cd.Rd.head, Cd.head, Cd.Rd.no, Cd.Rd.at_, hx, hy] at h
  · by_cases hx : x = 69 <;> by_cases hy : y = 70 <;> by_cases hz : z = 49 <;> simp [Cd.Rd.head, Cd.head, Cd.Rd.no, Cd.Rd.at_, hx, hy, hz] at h ⊢
theorem code_bad {s : List UInt8} {r : Cd.Rd} (h : r.fk ≠ 0) : (Cd.Rd.code s r).2 = r := by
  unfold Cd.Rd.code
  dsimp only
  rw [bad_num' h]
  dsimp only
  rw [bad_text h]
  dsimp only
  rw [ops_many, many_bad h]
  dsimp only
  rw [hans_many, many_bad h]
  dsimp only
  rw [funs_many, many_bad h]
  dsimp only
  rw [if_neg (fun hh => h hh.1)]

theorem calls_post {P : Program} {f : FuncId} {a : Array Value} {w : World} {R : Ending → World → Prop} (h : Calls P f a w R) : ∃ e w', R e w' := by
  obtain ⟨e, w', _, hr, _⟩ := h []
  exact ⟨e, w', hr⟩
set_option maxRecDepth 100000 in
set_option maxHeartbeats 8000000 in
theorem dcode_c (W : World) (b : Nat) (s : List UInt8) (h : PM W b s 0) (hs : s.length ≤ 4000000) :
    Calls Tryd.prog 9 #[.pointer (some ⟨b, 0, none⟩)] W (CdPost b s W (Cd.Rd.code s (Cd.Rd.head s 3 (Cd.Rd.at_ 3)))) := by
  have hbl := h.lt
  have HH := dhead_c (W.alloc (.cells #[.string ⟨#[]⟩, .slice none 0 0, .slice none 0 0, .slice none 0 0] 26)) b s (h.al _) hs
  unfold HdPost at HH
  have hok := head_ok (s := s)
  generalize Cd.Rd.head s 3 (Cd.Rd.at_ 3) = r0 at HH hok ⊢
  by_cases h0 : r0.fk = 0
  · obtain ⟨rfl, h3⟩ := hok h0
    rw [errV_ok h0] at HH
    have HH' := hid (HH.mono (fun e w' hh => (show e = .returned .nilIface ∧ (∃ p, p ≤ s.length ∧ PM w' b s p ∧ (True → p = 3)) ∧ (W.alloc (.cells #[.string ⟨#[]⟩, .slice none 0 0, .slice none 0 0, .slice none 0 0] 26)).grownBy w' (some b) from by
      obtain ⟨a1, ⟨p, a2, a3, a4⟩, a5⟩ := hh
      exact ⟨a1, ⟨p, a2, a3, fun _ => (a4 rfl).2⟩, a5⟩)))
    clear HH
    rw [code_eq]
    dsimp only
    have H1 := hid (fun (V : World) (hv : PM V b s 3) => dtext_c V b s 3 2 65535 hv hs h3 (by omega) (by omega))
    have hk1 := txt_fa s 2 65535 3
    have hl1 := txt_pos s 2 65535 3 h3
    generalize Cd.Rd.txt s 2 65535 (Cd.Rd.at_ 3) = t1 at H1 hk1 hl1 ⊢
    obtain ⟨t, r1⟩ := t1
    dsimp only at H1 hk1 hl1 ⊢
    unfold ptrV TkPost at H1
    by_cases g1 : r1.fk = 0
    · rw [errV_ok g1] at H1
      have e1 := (hk1 g1).symm
      have H2 := hid (fun (V : World) (hv : PM V b s r1.pos) => list_op V b s r1.pos 1 ROp (gOp s) ROp.ok hv hs hl1 (by omega) (fun V2 q2 h2 hq2 => operation_c V2 b s q2 h2 hs hq2))
      rw [e1] at H2
      unfold ptrV LPost at H2
      generalize Cd.Rd.manyL (gOp s) (Cd.Rd.num s 1 r1).1 (Cd.Rd.num s 1 r1).2 = t2 at H2 ⊢
      obtain ⟨Lo, r2⟩ := t2
      dsimp only at H2 ⊢
      obtain ⟨hl2, hf2⟩ : r2.pos ≤ s.length ∧ (r2.fk = 0 → r2.fa = 0) := by
        obtain ⟨e, w', a, n, c, _, _, _, x1, x2⟩ := calls_post (H2.out _ (h.pos r1.pos))
        exact ⟨x1, fun hh => (x2 hh).1⟩
      by_cases g2 : r2.fk = 0
      · rw [errV_ok g2] at H2
        have e2 := (rd_ok g2 (hf2 g2)).symm
        have H3 := hid (fun (V : World) (hv : PM V b s r2.pos) => list_han V b s r2.pos 2 RHan (fun r => r.han s) RHan.ok hv hs hl2 (by omega) (fun V2 q2 h2 hq2 => dhandler_c V2 b s q2 h2 hs hq2))
        rw [e2] at H3
        unfold ptrV LPost at H3
        generalize Cd.Rd.manyL (fun r => r.han s) (Cd.Rd.num s 2 r2).1 (Cd.Rd.num s 2 r2).2 = t3 at H3 ⊢
        obtain ⟨Lh, r3⟩ := t3
        dsimp only at H3 ⊢
        obtain ⟨hl3, hf3⟩ : r3.pos ≤ s.length ∧ (r3.fk = 0 → r3.fa = 0) := by
          obtain ⟨e, w', a, n, c, _, _, _, x1, x2⟩ := calls_post (H3.out _ (h.pos r2.pos))
          exact ⟨x1, fun hh => (x2 hh).1⟩
        by_cases g3 : r3.fk = 0
        · rw [errV_ok g3] at H3
          have e3 := (rd_ok g3 (hf3 g3)).symm
          have H4 := hid (fun (V : World) (hv : PM V b s r3.pos) => list_fun V b s r3.pos 2 RFun (fun r => r.fn s) RFun.ok hv hs hl3 (by omega) (fun V2 q2 h2 hq2 => dfunction_c V2 b s q2 h2 hs hq2))
          rw [e3] at H4
          unfold ptrV LPost at H4
          generalize Cd.Rd.manyL (fun r => r.fn s) (Cd.Rd.num s 2 r3).1 (Cd.Rd.num s 2 r3).2 = t4 at H4 ⊢
          obtain ⟨Lf, r4⟩ := t4
          dsimp only at H4 ⊢
          obtain ⟨hl4, hf4⟩ : r4.pos ≤ s.length ∧ (r4.fk = 0 → r4.fa = 0) := by
            obtain ⟨e, w', a, n, c, _, _, _, x1, x2⟩ := calls_post (H4.out _ (h.pos r3.pos))
            exact ⟨x1, fun hh => (x2 hh).1⟩
          by_cases g4 : r4.fk = 0
          · rw [errV_ok g4] at H4
            have e4 := (rd_ok g4 (hf4 g4)).symm
            have HE := hid (fun (V : World) (hv : PM V b s r4.pos) => dend_c V b s r4.pos hv hs hl4)
            rw [e4] at HE
            exact code_leaf5 W b s hs hbl t r1.pos r2.pos r3.pos r4.pos Lo Lh Lf (⟨t, Lo, Lh, Lf⟩, endR s r4) HH' H1 (hid (fun V hv => (H2.out V hv).mono (fun e w' hh => by
          obtain ⟨a, n, c, a1, a2, a3, a4, a5⟩ := hh
          exact ⟨a, n, c, a1, a2, a3, trivial, (a5 g2).2⟩))) (hid (fun V hv => (H3.out V hv).mono (fun e w' hh => by
          obtain ⟨a, n, c, a1, a2, a3, a4, a5⟩ := hh
          exact ⟨a, n, c, a1, a2, a3, trivial, (a5 g3).2⟩))) (hid (fun V hv => (H4.out V hv).mono (fun e w' hh => by
          obtain ⟨a, n, c, a1, a2, a3, a4, a5⟩ := hh
          exact ⟨a, n, c, a1, a2, a3, trivial, (a5 g4).2⟩))) HE rfl
          · rw [errV_no g4] at H4
            exact code_leaf4 W b s hs hbl t r1.pos r2.pos r3.pos Lo Lh r4 g4 _ (endR_bad g4) HH' H1 (hid (fun V hv => (H2.out V hv).mono (fun e w' hh => by
          obtain ⟨a, n, c, a1, a2, a3, a4, a5⟩ := hh
          exact ⟨a, n, c, a1, a2, a3, trivial, (a5 g2).2⟩))) (hid (fun V hv => (H3.out V hv).mono (fun e w' hh => by
          obtain ⟨a, n, c, a1, a2, a3, a4, a5⟩ := hh
          exact ⟨a, n, c, a1, a2, a3, trivial, (a5 g3).2⟩))) (hid (fun V hv => (H4.out V hv).mono (fun e w' hh => by
          obtain ⟨a, n, c, a1, a2, a3, a4, a5⟩ := hh
          exact ⟨a, n, c, a1, a2, a3, trivial, trivial⟩)))
        · rw [errV_no g3] at H3
          rw [many_bad g3]
          dsimp only
          exact code_leaf3 W b s hs hbl t r1.pos r2.pos Lo r3 g3 _ (endR_bad g3) HH' H1 (hid (fun V hv => (H2.out V hv).mono (fun e w' hh => by
          obtain ⟨a, n, c, a1, a2, a3, a4, a5⟩ := hh
          exact ⟨a, n, c, a1, a2, a3, trivial, (a5 g2).2⟩))) (hid (fun V hv => (H3.out V hv).mono (fun e w' hh => by
          obtain ⟨a, n, c, a1, a2, a3, a4, a5⟩ := hh
          exact ⟨a, n, c, a1, a2, a3, trivial, trivial⟩)))
      · rw [errV_no g2] at H2
        rw [many_bad g2]
        dsimp only
        rw [many_bad g2]
        dsimp only
        exact code_leaf2 W b s hs hbl t r1.pos r2 g2 _ (endR_bad g2) HH' H1  (hid (fun V hv => (H2.out V hv).mono (fun e w' hh => by
          obtain ⟨a, n, c, a1, a2, a3, a4, a5⟩ := hh
          exact ⟨a, n, c, a1, a2, a3, trivial, trivial⟩)))
    · rw [errV_no g1] at H1
      rw [many_bad g1]
      dsimp only
      rw [many_bad g1]
      dsimp only
      rw [many_bad g1]
      dsimp only
      exact code_leaf1 W b s hs hbl t r1 g1 _ (endR_bad g1) HH' H1
  · rw [errV_no h0] at HH
    exact code_leaf0 W b s hs hbl r0 h0 _ (code_bad h0) (hid (HH.mono (fun e w' hh => by
      obtain ⟨a1, ⟨p, a2, a3, a4⟩, a5⟩ := hh
      exact ⟨a1, ⟨p, a2, a3, fun h => h.elim⟩, a5⟩)))
end Go.Proofs.YticmoofjjikefaaDoor
