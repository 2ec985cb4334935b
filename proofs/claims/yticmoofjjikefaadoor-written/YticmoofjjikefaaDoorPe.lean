/-
  The program's writer in memory: text, flag, instruction, handler, function.
-/
import Derived.Test.YticmoofjjikefaaDoorPd
set_option linter.unusedVariables false
set_option linter.unusedSimpArgs false
namespace Go.Proofs.YticmoofjjikefaaDoor
open Go.RowKit Go.Lib

theorem WK.misfit {Z : Nat → Prop} {w : World} {p : Nat} {s : Cd.WSt} (h : WK Z w p s) : WK Z (w.setCell ⟨p, 1, none⟩ (.bool true)) p (s.1, true) ∧ Kz Z w (w.setCell ⟨p, 1, none⟩ (.bool true)) := by
  obtain ⟨v, hm, hz⟩ := h
  obtain ⟨hz1, hk1⟩ := WM.far (grown_set (i := 1) (grown_refl w _) (.bool true)) hz
  exact ⟨⟨v, hm.misfit, hz1⟩, hk1⟩
theorem WK.cells {Z : Nat → Prop} {w : World} {p : Nat} {s : Cd.WSt} (h : WK Z w p s) : (∃ v, w.cell? ⟨p, 0, none⟩ = some v) ∧ w.cell? ⟨p, 1, none⟩ = some (.bool s.2) ∧ w.cell? ⟨p, 2, none⟩ = some (.bool (decide (4000000 < s.1.length))) ∧ ∀ i, w.frozen? ⟨p, i, none⟩ = false := by
  obtain ⟨v, hm, hz⟩ := h
  obtain ⟨c0, c1, c2, hf⟩ := hm.cells
  exact ⟨⟨v, c0⟩, c1, c2, hf⟩

set_option maxHeartbeats 1000000 in
theorem text_c (Z : Nat → Prop) (w : World) (p : Nat) (s : Cd.WSt) (l : List UInt8) (size most : Nat) (h : WK Z w p s) (hs : size = 0 ∨ size = 1 ∨ size = 2 ∨ size = 8) (hm : most ≤ 65535) :
    Calls Tryd.prog 33 #[ptrV p, .string ⟨l.toArray⟩, .int .i64 size, .int .i64 most] w (WPost Z w p (Cd.wtext l size most s)) := by
  have hsz := size_mk l
  obtain ⟨_, c1, _, hf⟩ := h.cells
  have H := hid h
  clear h
  have HS := hid hs
  clear hs
  by_cases hx : most < l.length
  · have HP : Hid (Cd.wtext l size most s = (s.1, true)) := by simp [Hid, Cd.wtext, hx]
    have hx2 : (most : Int) < (l.length : Int) := by omega
    unfold ptrV
    go_enter Tryd.func33, Tryd.ntmps33
    go_wp2
    refine bodyPost_end (results_none rfl _ _ _) rfl ⟨rfl, ?_⟩
    rw [HP.out]
    exact H.out.misfit
  · have HP : Hid (Cd.wtext l size most s = Cd.wplain l (Cd.wnum l.length size s)) := by simp [Hid, Cd.wtext, hx]
    have hx2 : ¬ (most : Int) < (l.length : Int) := by omega
    have HN := hid (number_any Z w p s l.length size H.out HS.out)
    have HQ := hid (fun (w1 : World) (h1 : WK Z w1 p (Cd.wnum l.length size s)) => plain_any Z w1 p _ l h1 (by omega))
    unfold ptrV at HN HQ ⊢
    go_enter Tryd.func33, Tryd.ntmps33
    go_wp2_with (first
      | (go_at_call 34; refine HN.out.mono ?_; clear HN; rintro en w1 ⟨rfl, h1, k1⟩; replace h1 := hid h1; replace k1 := hid k1)
      | (go_at_call 32; refine (HQ.out _ h1.out).mono ?_; clear HQ; rintro en w2 ⟨rfl, h2, k2⟩; replace h2 := hid h2; replace k2 := hid k2)
      | go_in)
    refine bodyPost_end (results_none rfl _ _ _) rfl ⟨rfl, ?_⟩
    rw [HP.out]
    exact ⟨h2.out, k1.out.trans k2.out⟩

theorem flag_c (Z : Nat → Prop) (w : World) (p : Nat) (s : Cd.WSt) (b : Bool) (h : WK Z w p s) :
    Calls Tryd.prog 35 #[ptrV p, .bool b] w (WPost Z w p (Cd.wflag b s)) := by
  have HN := hid (number_any Z w p s (if b then 1 else 0) 1 h (by simp))
  clear h
  have HP : Hid (Cd.wflag b s = Cd.wnum (if b then 1 else 0) 1 s) := rfl
  cases b
  all_goals
    unfold ptrV at HN ⊢
    go_enter Tryd.func35, Tryd.ntmps35
    go_wp2_with (first
      | (go_at_call 34; refine HN.out.mono ?_; clear HN; rintro en w1 ⟨rfl, h1, k1⟩; replace h1 := hid h1; replace k1 := hid k1)
      | go_in)
    refine bodyPost_end (results_none rfl _ _ _) rfl ⟨rfl, ?_⟩
    rw [HP.out]
    exact ⟨h1.out, k1.out⟩

/-- A new block holds cells, and goes on holding them. -/
theorem kz_cells {Z : Nat → Prop} {w w' : World} {l : List Value} {T : TypeId} (h : Kz (fun k => Z k ∨ k = w.heap.size) (w.alloc (.cells l.toArray T)) w') {i : Nat} {x : Value} (hx : l[i]? = some x) : w'.cell? ⟨w.heap.size, i, none⟩ = some x := by
  refine h.cell (.inr rfl) ?_
  simp [hx]
theorem kz_out {Z : Nat → Prop} {w w' : World} {o : Obj} (h : Kz (fun k => Z k ∨ k = w.heap.size) (w.alloc o) w') : Kz Z w w' := (Kz.alloc Z w o).trans (h.mono (fun _ h => .inl h))
theorem wk_out {Z : Nat → Prop} {w : World} {p n : Nat} {s : Cd.WSt} (h : WK (fun k => Z k ∨ k = n) w p s) : WK Z w p s := h.mono (fun _ h => .inl h)

set_option maxHeartbeats 2000000 in
theorem instruction_c (Z : Nat → Prop) (w : World) (p : Nat) (s : Cd.WSt) (x : Cd.Ins) (h : WK Z w p s) :
    Calls Tryd.prog 53 #[ptrV p, insV x] w (WPost Z w p (Cd.wins x s)) := by
  obtain ⟨op, a, b, n⟩ := x
  have H := hid (h.alloc (.cells #[.int .i64 op, .int .i64 a, .int .i64 b, .int .i64 n] 64))
  clear h
  unfold insV
  by_cases hop : Cd.fits op 22 = true
  · have HP : Hid (Cd.wins ⟨op, a, b, n⟩ s = Cd.wnum n (Cd.wn op) (Cd.wnum b (Cd.wb op) (Cd.wnum a (Cd.wa op) (Cd.wnum op 1 s)))) := by simp [Hid, Cd.wins, hop]
    have ha : Cd.wa op = 0 ∨ Cd.wa op = 1 ∨ Cd.wa op = 2 ∨ Cd.wa op = 8 := by unfold Cd.wa; split <;> simp
    have hb : Cd.wb op = 0 ∨ Cd.wb op = 1 ∨ Cd.wb op = 2 ∨ Cd.wb op = 8 := by unfold Cd.wb; split <;> simp
    have hn : Cd.wn op = 0 ∨ Cd.wn op = 1 ∨ Cd.wn op = 2 ∨ Cd.wn op = 8 := by unfold Cd.wn; split <;> simp
    have HW := hid (fun W : World => widths_any op W)
    have HN1 := hid (fun (w1 : World) s1 (h1 : WK (fun k => Z k ∨ k = w.heap.size) w1 p s1) => number_any _ w1 p s1 op 1 h1 (by simp))
    have HN2 := hid (fun (w1 : World) s1 (h1 : WK (fun k => Z k ∨ k = w.heap.size) w1 p s1) => number_any _ w1 p s1 a (Cd.wa op) h1 ha)
    have HN3 := hid (fun (w1 : World) s1 (h1 : WK (fun k => Z k ∨ k = w.heap.size) w1 p s1) => number_any _ w1 p s1 b (Cd.wb op) h1 hb)
    have HN4 := hid (fun (w1 : World) s1 (h1 : WK (fun k => Z k ∨ k = w.heap.size) w1 p s1) => number_any _ w1 p s1 n (Cd.wn op) h1 hn)
    clear ha hb hn
    generalize Cd.wa op = ka at *
    generalize Cd.wb op = kb at *
    generalize Cd.wn op = kn at *
    unfold ptrV at HN1 HN2 HN3 HN4 ⊢
    go_enter Tryd.func53, Tryd.ntmps53
    go_wp2_with (first
      | (go_at_call 55; refine (isOp_any op _).mono ?_; rintro en w1 ⟨rfl, hw1⟩; obtain rfl := hw1.symm; rw [hop])
      | (go_at_call 56; refine (HW.out _).mono ?_; clear HW; rintro en w1 ⟨rfl, hw1⟩; obtain rfl := hw1.symm; dsimp only)
      | (go_at_call 34; refine (HN1.out _ _ H.out).mono ?_; clear HN1; rintro en w1 ⟨rfl, h1, k1⟩
         have d1 := kz_cells k1 (i := 1) (x := .int .i64 a) rfl
         replace h1 := hid h1; replace k1 := hid k1)
      | (go_at_call 34; refine (HN2.out _ _ h1.out).mono ?_; clear HN2; rintro en w2 ⟨rfl, h2, k2⟩
         have k2' := k1.out.trans k2
         have d2 := kz_cells k2' (i := 2) (x := .int .i64 b) rfl
         replace h2 := hid h2; replace k2 := hid k2'; clear k2')
      | (go_at_call 34; refine (HN3.out _ _ h2.out).mono ?_; clear HN3; rintro en w3 ⟨rfl, h3, k3⟩
         have k3' := k2.out.trans k3
         have d3 := kz_cells k3' (i := 3) (x := .int .i64 n) rfl
         replace h3 := hid h3; replace k3 := hid k3'; clear k3')
      | (go_at_call 34; refine (HN4.out _ _ h3.out).mono ?_; clear HN4; rintro en w4 ⟨rfl, h4, k4⟩
         replace h4 := hid h4; replace k4 := hid (k3.out.trans k4))
      | go_in)
    refine bodyPost_end (results_none rfl _ _ _) rfl ⟨rfl, ?_⟩
    rw [HP.out]
    exact ⟨wk_out h4.out, kz_out k4.out⟩
  · have hop2 : Cd.fits op 22 = false := by simpa using hop
    have HP : Hid (Cd.wins ⟨op, a, b, n⟩ s = (s.1, true)) := by simp [Hid, Cd.wins, hop2]
    obtain ⟨_, c1, _, hf⟩ := H.out.cells
    unfold ptrV
    go_enter Tryd.func53, Tryd.ntmps53
    go_wp2_with (first
      | (go_at_call 55; refine (isOp_any op _).mono ?_; rintro en w1 ⟨rfl, hw1⟩; obtain rfl := hw1.symm; rw [hop2])
      | go_in)
    refine bodyPost_end (results_none rfl _ _ _) rfl ⟨rfl, ?_⟩
    rw [HP.out]
    obtain ⟨a1, a2⟩ := H.out.misfit
    exact ⟨wk_out a1, kz_out a2⟩
end Go.Proofs.YticmoofjjikefaaDoor
