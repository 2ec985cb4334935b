/-
  The program's checker: check.
-/
import Derived.Test.YtkfjjkpphpakbaaKg
set_option linter.unusedVariables false
set_option linter.unusedSimpArgs false
namespace Go.Proofs.Ytkfjjkpphpakbaa
open Go.RowKit Go.Maps

theorem funF_flow {C : Cd.Code} {f : Cd.Fun} {first : Bool} (hx : ∀ x ∈ f.ins, 0 ≤ x.a) (h : Cd.opdL C f first f.ins 0 = none) : Cd.funF C f first = if (FlowV C f).2 then (0, 0) else (17, (FlowV C f).1) := by
  unfold Cd.funF FlowV
  rw [h, Cd.flowL_start hx]
  cases Cd.flowPL C f.ins 0 (Cd.Kn.put (fun _ => none) 0 0) with
  | mk a K =>
    cases a with
    | some i => rfl
    | none =>
      dsimp only
      have e : ∀ o : Option Int, o.isNone = !o.isSome := fun o => by cases o <;> rfl
      have e1 := e (K f.ins.length)
      split
      · rename_i h1
        split
        · rename_i h2
          rw [h1, h2] at e1
          cases e1
        · rfl
      · rename_i h1
        split
        · rfl
        · rename_i h2
          simp only [Bool.not_eq_true] at h1 h2
          rw [h1, h2] at e1
          cases e1
def CkPost (C : Cd.Code) (f : Cd.Fun) (first : Bool) (w : World) (kB : Nat) (v : Value) (e : Ending) (w' : World) : Prop := e = .returned (.agg #[.int .i64 (Cd.funF C f first).1, .int .i64 ((Cd.funF C f first).2 : Nat)]) ∧ w.grownBy w' (some kB) ∧ w'.cell? ⟨kB, 5, none⟩ = some v
theorem ck_fin {C : Cd.Code} {f : Cd.Fun} {first : Bool} {w w' : World} {a' : Act} {kB fB : Nat} {v : Value} {e : Int} {i : Nat} (hd : a'.defers = []) (h2 : a'.tmps[2]? = some (.pointer (some ⟨fB, 0, none⟩))) (hc : w'.cell? ⟨fB, 0, none⟩ = some (.int .i64 e)) (hc1 : w'.cell? ⟨fB, 1, none⟩ = some (.int .i64 (i : Nat))) (hv : Cd.funF C f first = (e, i)) (hb : w.grownBy w' (some kB)) (h5 : w'.cell? ⟨kB, 5, none⟩ = some v) : bodyPost Try.prog Try.f16 (CkPost C f first w kB v) .ret a' w' := by
  refine bodyPost_ret (v := .agg #[.int .i64 e, .int .i64 (i : Nat)]) ?_ hd ⟨?_, hb, h5⟩
  · simp [results, Try.results16, go_sem, h2, hc, hc1]
  · rw [hv]
theorem cell_set2 {w : World} {b k i : Nat} {u v x : Value} (h : w.cell? ⟨k, i, none⟩ = some x) (hk : k ≠ b) : ((w.setCell ⟨b, 0, none⟩ u).setCell ⟨b, 1, none⟩ v).cell? ⟨k, i, none⟩ = some x := by
  rw [← h]
  simp only [World.cell?]
  rw [Below.heap_setCell _ _ _ k (by dsimp only; omega), Below.heap_setCell _ _ _ k (by dsimp only; omega)]
theorem opdL_at {C : Cd.Code} {f : Cd.Fun} {first : Bool} {l : List Cd.Ins} {i : Nat} {x : Cd.Ins} (hx : l[i]? = some x) : Cd.opdL C f first (l.drop i) i = if Cd.opd C f first x = 0 then Cd.opdL C f first (l.drop (i + 1)) (i + 1) else some (Cd.opd C f first x, i) := by
  rw [Cd.drop_cons hx, Cd.opdL]
theorem grown_set2 {w w' : World} {o : Option Nat} {b : Nat} {u v : Value} (h : w.grownBy w' o) (hb : w.heap.size ≤ b) : w.grownBy ((w'.setCell ⟨b, 0, none⟩ u).setCell ⟨b, 1, none⟩ v) o :=
  ⟨h.os, h.tape, h.output, by have := h.size; simpa using this, fun k hk hne => by
    rw [Below.heap_setCell _ _ _ k (by dsimp only; omega), Below.heap_setCell _ _ _ k (by dsimp only; omega)]
    exact h.block k hk hne⟩

set_option maxRecDepth 100000 in
set_option maxHeartbeats 8000000 in
theorem check_c (C : Cd.Code) (f : Cd.Fun) (vb vc vd v : Value) (kB fn : Nat) (w0 w : World) (hK : Kk C f vb vc vd v kB fn (.slice none 0 0) w) (hS : Cd.Small C) (hmem : f ∈ C.funs) (hfl : fn < 65535)
    (hop : ∀ x ∈ f.ins, Cd.fits x.op 22 = true) (hc0 : CodeM w0 vb vc vd C) (hi0 : InssM w0 v f.ins) (hb0 : Below w0.heap.size w0 w) (hw0 : w0.heap.size ≤ kB) :
    Calls Try.prog 16 #[.pointer (some ⟨kB, 0, none⟩)] w (CkPost C f (decide (fn = 0)) w kB v) := by
  have hn := hS.ins f hmem
  have hkB := hK.lt
  have HI0 := hid hi0
  obtain ⟨ai, ci, rfl, hci, hx4⟩ := hi0
  have HX4 := hid hx4
  clear hx4
  have hb1 : Below w.heap.size w (w.alloc (.cells #[.int .i64 0, .int .i64 0] 37)) := (Below.refl _ _).alloc (Nat.le_refl _) _
  have hF1 : (w.alloc (.cells #[.int .i64 0, .int .i64 0] 37)).heap[w.heap.size]? = some (.cells #[.int .i64 0, .int .i64 0] 37 (0, 0)) := World.alloc_heap_new w _
  obtain ⟨_, c4, c5, c6, _⟩ := (hK.keep hb1).cells
  have HK := hid hK
  have HOp := hid hop
  have hxa := hS.a f hmem
  clear hK hop
  go_enter Try.func16, Try.ntmps16
  go_wp2
  obtain ⟨W, hW⟩ : ∃ W, w.alloc (.cells #[.int .i64 0, .int .i64 0] 37) = W := ⟨_, rfl⟩
  rw [hW] at hb1 hF1 c4 c5 c6 ⊢
  have hWs : W.heap.size = w.heap.size + 1 := by rw [← hW]; simp
  clear hW
  have HB0 : Hid (Below W.heap.size W W) := Below.refl _ _
  go_loopw [13] (fun t wr => ∃ i : Nat, t = .int .i64 i ∧ i ≤ f.ins.length ∧ Hid (Below W.heap.size W wr) ∧ Hid (Cd.opdL C f (decide (fn = 0)) f.ins 0 = Cd.opdL C f (decide (fn = 0)) (f.ins.drop i) i)) (fun t _ => f.ins.length - (intOf t).toNat)
  case atStart => exact ⟨0, rfl, Nat.zero_le _, HB0, by rw [Hid, List.drop_zero]⟩
  case round =>
    obtain ⟨i, rfl, hi, HB, HO⟩ := hrel
    by_cases hlt : i < f.ins.length
    · obtain ⟨x, hx, _, hxm, hne⟩ := at_some hlt
      obtain ⟨g, k, rfl, hcell⟩ := HX4.out hne
      obtain ⟨q0, q1, q2, q3⟩ := hcell i x hx
      have hbr := below_trans hb0 (below_trans hb1 HB.out)
      have e0 := kc hbr q0
      have e1 := kc hbr q1
      have e2 := kc hbr q2
      have e3 := kc hbr q3
      have hgb : g < wr.heap.size := block_lt_of_cell e0
      have hgl : (i : Int) < f.ins.length := by omega
      have hbk := below_trans hb1 HB.out
      have HA : Hid (Below w.heap.size w (wr.alloc (.cells #[.int .i64 x.op, .int .i64 x.a, .int .i64 x.b, .int .i64 x.n] 32))) := below_trans hbk ((Below.refl _ _).alloc (Nat.le_refl _) _)
      have HA2 : Hid (Below W.heap.size W (wr.alloc (.cells #[.int .i64 x.op, .int .i64 x.a, .int .i64 x.b, .int .i64 x.n] 32))) := below_trans HB.out ((Below.refl _ _).alloc (Nat.le_refl _) _)
      have HQ := hid (operands_c C f vb vc vd _ kB fn _ x _ (HK.out.keep HA.out) hfl (HOp.out x hxm) (hxa x hxm))
      unfold insV2 OpdPost at HQ
      have HOn := hid (HO.out.trans (opdL_at hx))
      clear hcell hne q0 q1 q2 q3 hbr
      generalize Cd.opd C f (decide (fn = 0)) x = od at HQ HOn
      by_cases hod : od = 0
      · subst hod
        simp only [if_true] at HOn
        go_wp2_with (first
          | (go_at_call 27; refine HQ.out.mono ?_; clear HQ; rintro en w4 ⟨rfl, h4⟩
             replace h4 := hid h4)
          | go_in)
        go_roundw
        case rel => exact ⟨i + 1, by simp, by omega, below_trans HA2.out h4.out, HOn⟩
        case measure => simp [intOf]; omega
      · simp only [hod, if_false] at HOn
        have HFv : Hid (Cd.funF C f (decide (fn = 0)) = (od, i)) := by
          rw [Hid]
          unfold Cd.funF
          rw [HOn.out]
        have hod2 : (od != 0) = true := by simpa using hod
        go_wp2_with (first
          | (go_at_call 27; refine HQ.out.mono ?_; clear HQ; rintro en w4 ⟨rfl, h4⟩
             have hb4 := below_trans HA2.out h4
             have hf4 : w4.heap[w.heap.size]? = some (.cells #[.int .i64 0, .int .i64 0] 37 (0, 0)) := (hb4.block _ (by omega)).trans hF1
             obtain ⟨x0, x1, x2, x3, x4⟩ := fault_box hf4
             replace x4 := hid x4
             replace hb4 := hid hb4
             clear h4 hf4)
          | go_in)
        obtain ⟨y0, y1, _⟩ := fault_box (x4.out (.int .i64 od) (.int .i64 (i : Int)))
        exact ck_fin rfl rfl y0 y1 HFv.out (grown_set2 (below_grown (below_trans hb1 hb4.out)) (Nat.le_refl _)) (cell_set2 (kc hb4.out c5) (by omega))
    · have ei : i = f.ins.length := by omega
      subst ei
      have hgl : ¬ ((f.ins.length : Int) < (f.ins.length : Int)) := by omega
      have hno : Cd.opdL C f (decide (fn = 0)) f.ins 0 = none := by rw [HO.out, List.drop_length]; rfl
      have hFF := funF_flow (fun x hx => (hxa x hx).1) hno
      have hbk := below_trans hb1 HB.out
      have HQ := hid (flow_c C f vb vc vd _ kB fn _ w0 wr (HK.out.keep hbk) hS hmem HOp.out ((Cd.opdL_none f.ins 0).1 hno) hc0 HI0.out (below_trans hb0 hbk) hw0 rfl)
      unfold FlowPost at HQ
      have HFF := hid hFF
      clear hFF hno
      generalize FlowV C f = fv at HQ HFF
      obtain ⟨fi, fb⟩ := fv
      dsimp only at HQ HFF
      have hlw : w.heap.size < wr.heap.size := by have := HB.out.size; omega
      cases fb with
      | true =>
        go_wp2_with (first
          | (go_at_call 28; refine HQ.out.mono ?_; clear HQ; rintro en w4 ⟨rfl, hg4, h45⟩
             have hf4 : w4.heap[w.heap.size]? = some (.cells #[.int .i64 0, .int .i64 0] 37 (0, 0)) := (hg4.block _ hlw (by simp; omega)).trans ((HB.out.block _ (by omega)).trans hF1)
             obtain ⟨x0, x1, x2, x3, x4⟩ := fault_box hf4
             replace x4 := hid x4
             replace hg4 := hid hg4
             clear hf4)
          | go_in)
        obtain ⟨y0, y1, _⟩ := fault_box (x4.out (.int .i64 0) (.int .i64 0))
        exact ck_fin rfl rfl y0 y1 (by rw [HFF.out]; rfl) (grown_set2 (grown_trans (below_grown hbk) hg4.out) (Nat.le_refl _)) (cell_set2 h45 (by omega))
      | false =>
        go_wp2_with (first
          | (go_at_call 28; refine HQ.out.mono ?_; clear HQ; rintro en w4 ⟨rfl, hg4, h45⟩
             have hf4 : w4.heap[w.heap.size]? = some (.cells #[.int .i64 0, .int .i64 0] 37 (0, 0)) := (hg4.block _ hlw (by simp; omega)).trans ((HB.out.block _ (by omega)).trans hF1)
             obtain ⟨x0, x1, x2, x3, x4⟩ := fault_box hf4
             replace x4 := hid x4
             replace hg4 := hid hg4
             clear hf4)
          | go_in)
        obtain ⟨y0, y1, _⟩ := fault_box (x4.out (.int .i64 17) (.int .i64 (fi : Int)))
        exact ck_fin rfl rfl y0 y1 (by rw [HFF.out]; rfl) (grown_set2 (grown_trans (below_grown hbk) hg4.out) (Nat.le_refl _)) (cell_set2 h45 (by omega))
end Go.Proofs.Ytkfjjkpphpakbaa
