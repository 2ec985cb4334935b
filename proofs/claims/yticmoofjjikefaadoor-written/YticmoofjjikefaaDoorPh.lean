/-
  The program's writer in memory: code; Encode.
-/
import Derived.Test.YticmoofjjikefaaDoorPg
set_option linter.unusedVariables false
set_option linter.unusedSimpArgs false
namespace Go.Proofs.YticmoofjjikefaaDoor
open Go.RowKit Go.Lib

def codeVp (C : Cd.Code) (b c d : Value) : Value := .agg #[.string ⟨C.shape.toArray⟩, b, c, d]
theorem kz_two {Z : Nat → Prop} {w w' : World} {n : Nat} {o : Obj} (h : Kz (fun k => (Z k ∨ k = n) ∨ k = w.heap.size) (w.alloc o) w') : Kz (fun k => Z k ∨ k = n) w w' := kz_out h

set_option maxRecDepth 100000 in
set_option maxHeartbeats 4000000 in
theorem code_c (Z : Nat → Prop) (w0 w : World) (p : Nat) (C : Cd.Code) (b c d : Value) (h : WNew w p) (hz : ∀ k, Z k → k < w.heap.size ∧ k ≠ p) (hZ : ∀ i, i < w0.heap.size → Z i) (hb : Below w0.heap.size w0 w) (hM : CodeM w0 b c d C) (hL : C.lens) :
    Calls Tryd.prog 17 #[ptrV p, codeVp C b c d] w (WPost Z w p (Cd.wcode C ([], false))) := by
  obtain ⟨⟨ao, co, rfl, hco, hx1⟩, ⟨ah, ch, rfl, hch, hx2⟩, ⟨af, cf, rfl, hcf, hx3⟩⟩ := hM
  obtain ⟨hl1, hl2, hl3, hl4, hl5⟩ := hL
  unfold maxLen at hl1 hl2 hl3
  have HX1 := hid hx1
  have HX2 := hid hx2
  have HX3 := hid hx3
  have HL4 := hid hl4
  have HL5 := hid hl5
  clear hx1 hx2 hx3 hl4 hl5
  have hp := (Array.getElem?_eq_some_iff.1 h).1
  have HH := hid (plain_head (fun k => Z k ∨ k = w.heap.size) (w.alloc (.cells #[.string ⟨C.shape.toArray⟩, .slice ao C.ops.length co, .slice ah C.hans.length ch, .slice af C.funs.length cf] 26)) p ((Below.heap_alloc w _ p hp).trans h) (fun k hk => by
    rcases hk with hk | rfl
    · obtain ⟨a, b⟩ := hz k hk
      exact ⟨by simp; omega, b⟩
    · exact ⟨by simp, by omega⟩))
  clear h hz
  have HT := hid (fun (Z1 : Nat → Prop) (w1 : World) s1 l (h1 : WK Z1 w1 p s1) => text_c Z1 w1 p s1 l 2 65535 h1 (by simp) (by omega))
  have HT1 := hid (fun (Z1 : Nat → Prop) (w1 : World) s1 l (h1 : WK Z1 w1 p s1) => text_c Z1 w1 p s1 l 1 20 h1 (by simp) (by omega))
  have HN1 := hid (fun (Z1 : Nat → Prop) (w1 : World) s1 v (h1 : WK Z1 w1 p s1) => number_any Z1 w1 p s1 v 1 h1 (by simp))
  have HN2 := hid (fun (Z1 : Nat → Prop) (w1 : World) s1 v (h1 : WK Z1 w1 p s1) => number_any Z1 w1 p s1 v 2 h1 (by simp))
  have HF := hid (fun (Z1 : Nat → Prop) (w1 : World) s1 b (h1 : WK Z1 w1 p s1) => flag_c Z1 w1 p s1 b h1)
  have HHan := hid (fun (Z1 : Nat → Prop) (w1 : World) s1 hn v (h1 : WK Z1 w1 p s1) hz1 hb1 hi1 hm1 => handler_c Z1 w0 w1 p s1 hn v h1 hz1 hb1 hi1 hm1)
  have HFun := hid (fun (Z1 : Nat → Prop) (w1 : World) s1 hn v (h1 : WK Z1 w1 p s1) hz1 hb1 hi1 hm1 => function_c Z1 w0 w1 p s1 hn v h1 hz1 hb1 hi1 hm1)
  have HP : Hid (Cd.wcode C ([], false) = C.funs.foldl (fun s f => Cd.wfun f s) (Cd.wnum C.funs.length 2 (C.hans.foldl (fun s h => Cd.whan h s) (Cd.wnum C.hans.length 2 (C.ops.foldl (fun s o => Cd.wop o s) (Cd.wnum C.ops.length 1 (Cd.wtext C.shape 2 65535 (Cd.wplain Cd.head ([], false))))))))) := rfl
  unfold ptrV at HH HT HT1 HN1 HN2 HF HHan HFun ⊢
  unfold codeVp
  go_enter Tryd.func17, Tryd.ntmps17
  go_wp2_with (first
    | (go_at_call 32; refine HH.out.mono ?_; clear HH; rintro en w1 ⟨rfl, h1, k1⟩
       have d1 := kz_cells k1 (i := 0) (x := .string ⟨C.shape.toArray⟩) rfl
       replace h1 := hid h1; replace k1 := hid k1)
    | (go_at_call 33; refine (HT.out _ _ _ _ h1.out).mono ?_; clear HT; rintro en w2 ⟨rfl, h2, k2⟩
       have k2' := k1.out.trans k2
       have d2 := kz_cells k2' (i := 1) (x := .slice ao C.ops.length co) rfl
       clear h1
       replace h2 := hid h2; replace k2 := hid k2'; clear k2')
    | (go_at_call 34; refine (HN1.out _ _ _ _ h2.out).mono ?_; clear HN1; rintro en w3 ⟨rfl, h3, k3⟩
       have k3' := k2.out.trans k3
       have d3 := kz_cells k3' (i := 1) (x := .slice ao C.ops.length co) rfl
       clear h2
       replace h3 := hid h3; replace k3 := hid k3'; clear k3')
    | go_in)
  generalize hbox : w.alloc (.cells #[.string ⟨C.shape.toArray⟩, .slice ao C.ops.length co, .slice ah C.hans.length ch, .slice af C.funs.length cf] 26) = wb at *
  have HBox := hid hbox
  clear hbox
  have hbb : Below w0.heap.size w0 wb := by rw [← HBox.out]; exact hb.trans ((Below.refl _ _).alloc hb.size _)
  have hZ1 : ∀ i, i < w0.heap.size → (fun k => Z k ∨ k = w.heap.size) i := fun i hi => .inl (hZ i hi)
  have hZ2 : ∀ (n : Nat) i, i < w0.heap.size → (fun k => (Z k ∨ k = w.heap.size) ∨ k = n) i := fun _ i hi => .inl (.inl (hZ i hi))
  generalize hs0 : Cd.wnum C.ops.length 1 (Cd.wtext C.shape 2 65535 (Cd.wplain Cd.head ([], false))) = s0 at *
  clear hs0
  have HS0 : Hid (WK (fun k => Z k ∨ k = w.heap.size) w3 p ((C.ops.take 0).foldl (fun s o => Cd.wop o s) s0) ∧ Kz (fun k => Z k ∨ k = w.heap.size) wb w3) := by
    refine ⟨?_, k3.out⟩
    rw [List.take_zero, List.foldl_nil]
    exact h3.out
  clear h3 k3 k2 k1 d1 d2 d3
  go_loopw [24] (fun t wr => ∃ i : Nat, t = .int .i64 i ∧ i ≤ C.ops.length ∧ Hid (WK (fun k => Z k ∨ k = w.heap.size) wr p ((C.ops.take i).foldl (fun s o => Cd.wop o s) s0) ∧ Kz (fun k => Z k ∨ k = w.heap.size) wb wr)) (fun t _ => C.ops.length - (intOf t).toNat)
  case atStart => exact ⟨0, rfl, Nat.zero_le _, HS0⟩
  case round =>
    obtain ⟨i, rfl, hi, HS⟩ := hrel
    by_cases hlt : i < C.ops.length
    · obtain ⟨x, hx, htk, _, hne⟩ := at_some hlt
      obtain ⟨g, k, rfl, hc⟩ := HX1.out hne
      have hbw : Below w0.heap.size w0 wr := kz_below hbb HS.out.2 hZ1
      obtain ⟨q0, q1⟩ := hc i x hx
      have c0 := kc hbw q0
      have c1 := kc hbw q1
      have hgb : g < wr.heap.size := block_lt_of_cell c0
      have hgl : (i : Int) < C.ops.length := by omega
      clear hc hne q0 q1
      have HT := hid htk
      clear htk
      have HA := hid (HS.out.1.alloc (.cells #[.string ⟨x.name.toArray⟩, .bool x.once] 56))
      go_wp2_with (first
        | (go_at_call 33; refine (HT1.out _ _ _ _ HA.out).mono ?_; rintro en w4 ⟨rfl, h4, k4⟩
           have d4 := kz_cells k4 (i := 1) (x := .bool x.once) rfl
           replace h4 := hid h4; replace k4 := hid k4)
        | (go_at_call 35; refine (HF.out _ _ _ _ h4.out).mono ?_; rintro en w5 ⟨rfl, h5, k5⟩
           replace h5 := hid h5; replace k5 := hid (HS.out.2.trans (kz_out (k4.out.trans k5))))
        | go_in)
      go_roundw
      case rel => exact ⟨i + 1, by simp, by omega, by rw [fold_take HT.out]; exact ⟨wk_out h5.out, k5.out⟩⟩
      case measure => simp [intOf]; omega
    · have e : i = C.ops.length := by omega
      subst e
      have hgl : ¬ (C.ops.length : Int) < C.ops.length := by omega
      obtain ⟨hw4, hk4⟩ := HS.out
      rw [List.take_length] at hw4
      have HW4 := hid hw4
      have HK4 := hid hk4
      have d4 := kz_cells (by rw [HBox.out]; exact hk4) (i := 2) (x := .slice ah C.hans.length ch) rfl
      clear hw4 hk4 HS
      go_wp2_with (first
        | (go_at_call 34; refine (HN2.out _ _ _ _ HW4.out).mono ?_; rintro en w5 ⟨rfl, h5, k5⟩
           have k5' := HK4.out.trans k5
           have d5 := kz_cells (by rw [HBox.out]; exact k5') (i := 2) (x := .slice ah C.hans.length ch) rfl
           clear HW4
           replace h5 := hid h5; replace k5 := hid k5'; clear k5')
        | go_in)
      generalize hs1 : Cd.wnum C.hans.length 2 (C.ops.foldl (fun s o => Cd.wop o s) s0) = s1 at *
      clear hs1
      have HS1 : Hid (WK (fun k => Z k ∨ k = w.heap.size) w5 p ((C.hans.take 0).foldl (fun s o => Cd.whan o s) s1) ∧ Kz (fun k => Z k ∨ k = w.heap.size) wb w5) := by
        refine ⟨?_, k5.out⟩
        rw [List.take_zero, List.foldl_nil]
        exact h5.out
      clear h5 k5 d5 d4 HK4
      go_loopw [45] (fun t wr => ∃ i : Nat, t = .int .i64 i ∧ i ≤ C.hans.length ∧ Hid (WK (fun k => Z k ∨ k = w.heap.size) wr p ((C.hans.take i).foldl (fun s o => Cd.whan o s) s1) ∧ Kz (fun k => Z k ∨ k = w.heap.size) wb wr)) (fun t _ => C.hans.length - (intOf t).toNat)
      case atStart => exact ⟨0, rfl, Nat.zero_le _, HS1⟩
      case round =>
        obtain ⟨i, rfl, hi, HS⟩ := hrel
        by_cases hlt : i < C.hans.length
        · obtain ⟨x, hx, htk, hmem, hne⟩ := at_some hlt
          obtain ⟨g, k, rfl, hc⟩ := HX2.out hne
          have hbw : Below w0.heap.size w0 wr := kz_below hbb HS.out.2 hZ1
          obtain ⟨q0, u, q1, hI⟩ := hc i x hx
          have c0 := kc hbw q0
          have c1 := kc hbw q1
          have hgb : g < wr.heap.size := block_lt_of_cell c0
          have hgl : (i : Int) < C.hans.length := by omega
          clear hc hne q0 q1
          have HT := hid htk
          clear htk
          have HA := HS.out.1.alloc (.cells #[.bool x.shallow, u] 59)
          have HC := hid (HHan.out _ _ _ x u HA (hZ2 _) (kz_below hbb (HS.out.2.trans (Kz.alloc _ _ _)) hZ1) hI (HL4.out x hmem))
          unfold hanV at HC
          obtain ⟨ai, ci, rfl, hci, _⟩ := hI
          clear HA
          go_wp2_with (first
            | (go_at_call 36; refine HC.out.mono ?_; rintro en w7 ⟨rfl, h7, k7⟩
               replace h7 := hid h7; replace k7 := hid (HS.out.2.trans (kz_out k7)))
            | go_in)
          go_roundw
          case rel => exact ⟨i + 1, by simp, by omega, by rw [fold_take HT.out]; exact ⟨wk_out h7.out, k7.out⟩⟩
          case measure => simp [intOf]; omega
        · have e : i = C.hans.length := by omega
          subst e
          have hgl : ¬ (C.hans.length : Int) < C.hans.length := by omega
          obtain ⟨hw4, hk4⟩ := HS.out
          rw [List.take_length] at hw4
          have HW4 := hid hw4
          have HK4 := hid hk4
          have d4 := kz_cells (by rw [HBox.out]; exact hk4) (i := 3) (x := .slice af C.funs.length cf) rfl
          clear hw4 hk4 HS
          go_wp2_with (first
            | (go_at_call 34; refine (HN2.out _ _ _ _ HW4.out).mono ?_; rintro en w8 ⟨rfl, h8, k8⟩
               have k8' := HK4.out.trans k8
               have d8 := kz_cells (by rw [HBox.out]; exact k8') (i := 3) (x := .slice af C.funs.length cf) rfl
               clear HW4
               replace h8 := hid h8; replace k8 := hid k8'; clear k8')
            | go_in)
          generalize hs2 : Cd.wnum C.funs.length 2 (C.hans.foldl (fun s o => Cd.whan o s) s1) = s2 at *
          clear hs2
          have HS2 : Hid (WK (fun k => Z k ∨ k = w.heap.size) w8 p ((C.funs.take 0).foldl (fun s o => Cd.wfun o s) s2) ∧ Kz (fun k => Z k ∨ k = w.heap.size) wb w8) := by
            refine ⟨?_, k8.out⟩
            rw [List.take_zero, List.foldl_nil]
            exact h8.out
          clear h8 k8 d8 d4 HK4
          go_loopw [61] (fun t wr => ∃ i : Nat, t = .int .i64 i ∧ i ≤ C.funs.length ∧ Hid (WK (fun k => Z k ∨ k = w.heap.size) wr p ((C.funs.take i).foldl (fun s o => Cd.wfun o s) s2) ∧ Kz (fun k => Z k ∨ k = w.heap.size) wb wr)) (fun t _ => C.funs.length - (intOf t).toNat)
          case atStart => exact ⟨0, rfl, Nat.zero_le _, HS2⟩
          case round =>
            obtain ⟨i, rfl, hi, HS⟩ := hrel
            by_cases hlt : i < C.funs.length
            · obtain ⟨x, hx, htk, hmem, hne⟩ := at_some hlt
              obtain ⟨g, k, rfl, hc⟩ := HX3.out hne
              have hbw : Below w0.heap.size w0 wr := kz_below hbb HS.out.2 hZ1
              obtain ⟨q0, q1, u, q2, hI⟩ := hc i x hx
              have c0 := kc hbw q0
              have c1 := kc hbw q1
              have c2 := kc hbw q2
              have hgb : g < wr.heap.size := block_lt_of_cell c0
              have hgl : (i : Int) < C.funs.length := by omega
              clear hc hne q0 q1 q2
              have HT := hid htk
              clear htk
              have HA := HS.out.1.alloc (.cells #[.int .i64 x.free, .int .i64 x.slots, u] 62)
              have HC := hid (HFun.out _ _ _ x u HA (hZ2 _) (kz_below hbb (HS.out.2.trans (Kz.alloc _ _ _)) hZ1) hI (HL5.out x hmem))
              unfold funV at HC
              obtain ⟨ai, ci, rfl, hci, _⟩ := hI
              clear HA
              go_wp2_with (first
                | (go_at_call 37; refine HC.out.mono ?_; rintro en w9 ⟨rfl, h9, k9⟩
                   replace h9 := hid h9; replace k9 := hid (HS.out.2.trans (kz_out k9)))
                | go_in)
              go_roundw
              case rel => exact ⟨i + 1, by simp, by omega, by rw [fold_take HT.out]; exact ⟨wk_out h9.out, k9.out⟩⟩
              case measure => simp [intOf]; omega
            · have e : i = C.funs.length := by omega
              subst e
              have hgl : ¬ (C.funs.length : Int) < C.funs.length := by omega
              go_wp2
              refine bodyPost_end (results_none rfl _ _ _) rfl ⟨rfl, ?_⟩
              rw [HP.out]
              have := HS.out
              rw [List.take_length] at this
              refine ⟨wk_out this.1, ?_⟩
              have hk := this.2
              rw [← HBox.out] at hk
              exact kz_out hk

def encP (C : Cd.Code) : Ending := .returned (.tuple #[.string ⟨(Cd.enc C).1.toArray⟩, .int .i64 ((Cd.enc C).2 : Nat)])
theorem wcode_ok (C : Cd.Code) : (Cd.wcode C ([], false)).2 = !Cd.ok C ∧ (Cd.ok C = true → (Cd.wcode C ([], false)).1 = Cd.bytes C) := by
  have h := Cd.wr_code C ([], false)
  simpa using h

set_option maxRecDepth 100000 in
set_option maxHeartbeats 4000000 in
theorem cencode_any (C : Cd.Code) (b c d : Value) (w : World) (hM : CodeM w b c d C) (hL : C.lens) :
    Calls Tryd.prog 8 #[codeVp C b c d] w fun e w' => e = encP C ∧ Below w.heap.size w w' := by
  have HM := hid hM
  obtain ⟨⟨ao, co, rfl, hco, hx1⟩, ⟨ah, ch, rfl, hch, hx2⟩, ⟨af, cf, rfl, hcf, hx3⟩⟩ := hM
  clear hx1 hx2 hx3
  have hok := wcode_ok C
  have HC := hid (fun (W : World) (h1 : WNew W (w.heap.size + 1)) (h2 : w.heap.size + 1 < W.heap.size) (h3 : Below w.heap.size w W) => code_c (fun k => k < w.heap.size ∨ k = w.heap.size) w W (w.heap.size + 1) C _ _ _ h1 (fun k hk => ⟨by omega, by omega⟩) (fun i hi => .inl hi) h3 HM.out hL)
  unfold ptrV codeVp at HC
  unfold codeVp
  generalize hs : Cd.wcode C ([], false) = s at *
  clear hs
  have HO := hid hok
  clear hok
  have hNew : WNew ((w.alloc (.cells #[.string ⟨C.shape.toArray⟩, .slice ao C.ops.length co, .slice ah C.hans.length ch, .slice af C.funs.length cf] 26)).alloc (.cells #[.slice none 0 0, .bool false, .bool false] 69)) (w.heap.size + 1) := by
    have := heap_alloc_new (w.alloc (.cells #[.string ⟨C.shape.toArray⟩, .slice ao C.ops.length co, .slice ah C.hans.length ch, .slice af C.funs.length cf] 26)) (.cells #[.slice none 0 0, .bool false, .bool false] 69)
    simpa [WNew] using this
  have hBel : Below w.heap.size w ((w.alloc (.cells #[.string ⟨C.shape.toArray⟩, .slice ao C.ops.length co, .slice ah C.hans.length ch, .slice af C.funs.length cf] 26)).alloc (.cells #[.slice none 0 0, .bool false, .bool false] 69)) := ((Below.refl _ _).alloc (Nat.le_refl _) _).alloc (by simp) _
  have HBel := hid hBel
  by_cases hk : Cd.ok C = true
  · have hs2 : s.2 = false := by rw [HO.out.1, hk]; rfl
    have HS1 : Hid (s.1 = Cd.bytes C) := HO.out.2 hk
    by_cases hlen : (Cd.bytes C).length ≤ 4000000
    · have HE : Hid (encP C = .returned (.tuple #[.string ⟨(Cd.bytes C).toArray⟩, .int .i64 0])) := by simp [Hid, encP, Cd.enc, hk, hlen]
      have hdec : decide (4000000 < s.1.length) = false := by rw [HS1.out]; simpa using hlen
      have hl1 : s.1.length ≤ 4000000 := by rw [HS1.out]; exact hlen
      go_enter Tryd.func8, Tryd.ntmps8
      go_wp2_with (first
        | (go_at_call 17; refine (HC.out _ hNew (by simp) hBel).mono ?_; clear HC hNew hBel; rintro en w1 ⟨rfl, h1, k1⟩
           obtain ⟨v, hm, hz⟩ := h1
           obtain ⟨c0, c1, c2, hf⟩ := hm.cells
           rw [hs2] at c1
           rw [hdec] at c2
           have hr := hm.row_at hl1
           have hbk := bytes_back w1 0 v s.1 hr
           obtain ⟨g, cap, rfl, _⟩ := hr.cell
           replace hm := hid hm
           replace k1 := hid k1
           clear hz)
        | go_in)

      refine bodyPost_ret (v := .tuple #[.string ⟨s.1.toArray⟩, .int .i64 0]) (by simp [results, Tryd.results8, go_sem]) rfl ⟨?_, ?_⟩
      · rw [HE.out, HS1.out]
      · exact kz_below HBel.out k1.out (fun i hi => .inl hi)
    · have HE : Hid (encP C = .returned (.tuple #[.string ⟨#[]⟩, .int .i64 1])) := by simp [Hid, encP, Cd.enc, hk, hlen]
      have hdec : decide (4000000 < s.1.length) = true := by rw [HS1.out]; simpa using hlen
      go_enter Tryd.func8, Tryd.ntmps8
      go_wp2_with (first
        | (go_at_call 17; refine (HC.out _ hNew (by simp) hBel).mono ?_; clear HC hNew hBel; rintro en w1 ⟨rfl, h1, k1⟩
           obtain ⟨v, hm, hz⟩ := h1
           obtain ⟨c0, c1, c2, hf⟩ := hm.cells
           rw [hs2] at c1
           rw [hdec] at c2
           clear hf
           replace hm := hid hm
           replace k1 := hid k1
           clear hz)
        | go_in)

      refine bodyPost_ret (v := .tuple #[.string ⟨#[]⟩, .int .i64 1]) (by simp [results, Tryd.results8, go_sem]) rfl ⟨HE.out.symm, ?_⟩
      exact kz_below HBel.out k1.out (fun i hi => .inl hi)
  · have hk2 : Cd.ok C = false := by simpa using hk
    have hs2 : s.2 = true := by rw [HO.out.1, hk2]; rfl
    have HE : Hid (encP C = .returned (.tuple #[.string ⟨#[]⟩, .int .i64 14])) := by simp [Hid, encP, Cd.enc, hk2]
    go_enter Tryd.func8, Tryd.ntmps8
    go_wp2_with (first
      | (go_at_call 17; refine (HC.out _ hNew (by simp) hBel).mono ?_; clear HC hNew hBel; rintro en w1 ⟨rfl, h1, k1⟩
         obtain ⟨v, hm, hz⟩ := h1
         obtain ⟨c0, c1, c2, hf⟩ := hm.cells
         rw [hs2] at c1
         clear hf
         replace hm := hid hm
         replace k1 := hid k1
         clear hz)
      | go_in)

    refine bodyPost_ret (v := .tuple #[.string ⟨#[]⟩, .int .i64 14]) (by simp [results, Tryd.results8, go_sem]) rfl ⟨HE.out.symm, ?_⟩
    exact kz_below HBel.out k1.out (fun i hi => .inl hi)
end Go.Proofs.YticmoofjjikefaaDoor
