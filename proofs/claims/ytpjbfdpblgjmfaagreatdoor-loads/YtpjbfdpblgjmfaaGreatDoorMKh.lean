/-
  The program's checker: check.
  The program's Check.
-/
import Derived.Test.YtpjbfdpblgjmfaaGreatDoorMKf
set_option linter.unusedVariables false
set_option linter.unusedSimpArgs false
namespace Go.Proofs.YtpjbfdpblgjmfaaGreatDoor
open Go.RowKit Go.Maps

theorem funF_flow {C : Cd.Code} {f : Cd.Fun} {first : Bool} (hx : ∀ x ∈ f.ins, 0 ≤ x.a) (h : Cd.opdL C f first f.ins 0 = none) : Cd.funF C f first = if (FlowV C f).2 then (0, 0) else (17, (FlowV C f).1) := by
  unfold Cd.funF FlowV
  rw [h, Cd.flowL_start hx]
  cases Cd.flowPL C f.ins 0 (Cd.Kn.put (fun _ => none) 0 0) with
  | mk a K =>
    cases a with
    | some i => rfl
    | none =>
      dsimp only
      have e : ∀ o : Option Int, o.isNone = !o.isSome := fun o => by cases o <;> rfl
      have e1 := e (K f.ins.length)
      split
      · rename_i h1
        split
        · rename_i h2
          rw [h1, h2] at e1
          cases e1
        · rfl
      · rename_i h1
        split
        · rfl
        · rename_i h2
          simp only [Bool.not_eq_true] at h1 h2
          rw [h1, h2] at e1
          cases e1
def CkPost (C : Cd.Code) (f : Cd.Fun) (first : Bool) (w : World) (kB : Nat) (v : Value) (e : Ending) (w' : World) : Prop := e = .returned (.agg #[.int .i64 (Cd.funF C f first).1, .int .i64 ((Cd.funF C f first).2 : Nat)]) ∧ w.grownBy w' (some kB) ∧ w'.cell? ⟨kB, 5, none⟩ = some v
theorem ck_fin {C : Cd.Code} {f : Cd.Fun} {first : Bool} {w w' : World} {a' : Act} {kB fB : Nat} {v : Value} {e : Int} {i : Nat} (hd : a'.defers = []) (h2 : a'.tmps[2]? = some (.pointer (some ⟨fB, 0, none⟩))) (hc : w'.cell? ⟨fB, 0, none⟩ = some (.int .i64 e)) (hc1 : w'.cell? ⟨fB, 1, none⟩ = some (.int .i64 (i : Nat))) (hv : Cd.funF C f first = (e, i)) (hb : w.grownBy w' (some kB)) (h5 : w'.cell? ⟨kB, 5, none⟩ = some v) : bodyPost Tryz.prog Tryz.f25 (CkPost C f first w kB v) .ret a' w' := by
  refine bodyPost_ret (v := .agg #[.int .i64 e, .int .i64 (i : Nat)]) ?_ hd ⟨?_, hb, h5⟩
  · simp [results, Tryz.results25, go_sem, h2, hc, hc1]
  · rw [hv]
theorem cell_set2 {w : World} {b k i : Nat} {u v x : Value} (h : w.cell? ⟨k, i, none⟩ = some x) (hk : k ≠ b) : ((w.setCell ⟨b, 0, none⟩ u).setCell ⟨b, 1, none⟩ v).cell? ⟨k, i, none⟩ = some x := by
  rw [← h]
  simp only [World.cell?]
  rw [Below.heap_setCell _ _ _ k (by dsimp only; omega), Below.heap_setCell _ _ _ k (by dsimp only; omega)]
theorem opdL_at {C : Cd.Code} {f : Cd.Fun} {first : Bool} {l : List Cd.Ins} {i : Nat} {x : Cd.Ins} (hx : l[i]? = some x) : Cd.opdL C f first (l.drop i) i = if Cd.opd C f first x = 0 then Cd.opdL C f first (l.drop (i + 1)) (i + 1) else some (Cd.opd C f first x, i) := by
  rw [Cd.drop_cons hx, Cd.opdL]
theorem grown_set2 {w w' : World} {o : Option Nat} {b : Nat} {u v : Value} (h : w.grownBy w' o) (hb : w.heap.size ≤ b) : w.grownBy ((w'.setCell ⟨b, 0, none⟩ u).setCell ⟨b, 1, none⟩ v) o :=
  ⟨h.os, h.tape, h.output, by have := h.size; simpa using this, fun k hk hne => by
    rw [Below.heap_setCell _ _ _ k (by dsimp only; omega), Below.heap_setCell _ _ _ k (by dsimp only; omega)]
    exact h.block k hk hne⟩

set_option maxRecDepth 100000 in
set_option maxHeartbeats 8000000 in
theorem check_c (C : Cd.Code) (f : Cd.Fun) (vb vc vd v : Value) (kB fn : Nat) (w0 w : World) (hK : Kk C f vb vc vd v kB fn (.slice none 0 0) w) (hS : Cd.Small C) (hmem : f ∈ C.funs) (hfl : fn < 65535)
    (hop : ∀ x ∈ f.ins, Cd.fits x.op 22 = true) (hc0 : CodeM w0 vb vc vd C) (hi0 : InssM w0 v f.ins) (hb0 : Below w0.heap.size w0 w) (hw0 : w0.heap.size ≤ kB) :
    Calls Tryz.prog 25 #[.pointer (some ⟨kB, 0, none⟩)] w (CkPost C f (decide (fn = 0)) w kB v) := by
  have hn := hS.ins f hmem
  have hkB := hK.lt
  have HI0 := hid hi0
  obtain ⟨ai, ci, rfl, hci, hx4⟩ := hi0
  have HX4 := hid hx4
  clear hx4
  have hb1 : Below w.heap.size w (w.alloc (.cells #[.int .i64 0, .int .i64 0] 25)) := (Below.refl _ _).alloc (Nat.le_refl _) _
  have hF1 : (w.alloc (.cells #[.int .i64 0, .int .i64 0] 25)).heap[w.heap.size]? = some (.cells #[.int .i64 0, .int .i64 0] 25 (0, 0)) := World.alloc_heap_new w _
  obtain ⟨_, c4, c5, c6, _⟩ := (hK.keep hb1).cells
  have HK := hid hK
  have HOp := hid hop
  have hxa := hS.a f hmem
  clear hK hop
  go_enter Tryz.func25, Tryz.ntmps25
  go_wp2
  obtain ⟨W, hW⟩ : ∃ W, w.alloc (.cells #[.int .i64 0, .int .i64 0] 25) = W := ⟨_, rfl⟩
  rw [hW] at hb1 hF1 c4 c5 c6 ⊢
  have hWs : W.heap.size = w.heap.size + 1 := by rw [← hW]; simp
  clear hW
  have HB0 : Hid (Below W.heap.size W W) := Below.refl _ _
  go_loopw [13] (fun t wr => ∃ i : Nat, t = .int .i64 i ∧ i ≤ f.ins.length ∧ Hid (Below W.heap.size W wr) ∧ Hid (Cd.opdL C f (decide (fn = 0)) f.ins 0 = Cd.opdL C f (decide (fn = 0)) (f.ins.drop i) i)) (fun t _ => f.ins.length - (intOf t).toNat)
  case atStart => exact ⟨0, rfl, Nat.zero_le _, HB0, by rw [Hid, List.drop_zero]⟩
  case round =>
    obtain ⟨i, rfl, hi, HB, HO⟩ := hrel
    by_cases hlt : i < f.ins.length
    · obtain ⟨x, hx, _, hxm, hne⟩ := at_some hlt
      obtain ⟨g, k, rfl, hcell⟩ := HX4.out hne
      obtain ⟨q0, q1, q2, q3⟩ := hcell i x hx
      have hbr := below_trans hb0 (below_trans hb1 HB.out)
      have e0 := kc hbr q0
      have e1 := kc hbr q1
      have e2 := kc hbr q2
      have e3 := kc hbr q3
      have hgb : g < wr.heap.size := block_lt_of_cell e0
      have hgl : (i : Int) < f.ins.length := by omega
      have hbk := below_trans hb1 HB.out
      have HA : Hid (Below w.heap.size w (wr.alloc (.cells #[.int .i64 x.op, .int .i64 x.a, .int .i64 x.b, .int .i64 x.n] 123))) := below_trans hbk ((Below.refl _ _).alloc (Nat.le_refl _) _)
      have HA2 : Hid (Below W.heap.size W (wr.alloc (.cells #[.int .i64 x.op, .int .i64 x.a, .int .i64 x.b, .int .i64 x.n] 123))) := below_trans HB.out ((Below.refl _ _).alloc (Nat.le_refl _) _)
      have HQ := hid (operands_c C f vb vc vd _ kB fn _ x _ (HK.out.keep HA.out) hfl (HOp.out x hxm) (hxa x hxm))
      unfold insV2 OpdPost at HQ
      have HOn := hid (HO.out.trans (opdL_at hx))
      clear hcell hne q0 q1 q2 q3 hbr
      generalize Cd.opd C f (decide (fn = 0)) x = od at HQ HOn
      by_cases hod : od = 0
      · subst hod
        simp only [if_true] at HOn
        go_wp2_with (first
          | (go_at_call 62; refine HQ.out.mono ?_; clear HQ; rintro en w4 ⟨rfl, h4⟩
             replace h4 := hid h4)
          | go_in)
        go_roundw
        case rel => exact ⟨i + 1, by simp, by omega, below_trans HA2.out h4.out, HOn⟩
        case measure => simp [intOf]; omega
      · simp only [hod, if_false] at HOn
        have HFv : Hid (Cd.funF C f (decide (fn = 0)) = (od, i)) := by
          rw [Hid]
          unfold Cd.funF
          rw [HOn.out]
        have hod2 : (od != 0) = true := by simpa using hod
        go_wp2_with (first
          | (go_at_call 62; refine HQ.out.mono ?_; clear HQ; rintro en w4 ⟨rfl, h4⟩
             have hb4 := below_trans HA2.out h4
             have hf4 : w4.heap[w.heap.size]? = some (.cells #[.int .i64 0, .int .i64 0] 25 (0, 0)) := (hb4.block _ (by omega)).trans hF1
             obtain ⟨x0, x1, x2, x3, x4⟩ := fault_box hf4
             replace x4 := hid x4
             replace hb4 := hid hb4
             clear h4 hf4)
          | go_in)
        obtain ⟨y0, y1, _⟩ := fault_box (x4.out (.int .i64 od) (.int .i64 (i : Int)))
        exact ck_fin rfl rfl y0 y1 HFv.out (grown_set2 (below_grown (below_trans hb1 hb4.out)) (Nat.le_refl _)) (cell_set2 (kc hb4.out c5) (by omega))
    · have ei : i = f.ins.length := by omega
      subst ei
      have hgl : ¬ ((f.ins.length : Int) < (f.ins.length : Int)) := by omega
      have hno : Cd.opdL C f (decide (fn = 0)) f.ins 0 = none := by rw [HO.out, List.drop_length]; rfl
      have hFF := funF_flow (fun x hx => (hxa x hx).1) hno
      have hbk := below_trans hb1 HB.out
      have HQ := hid (flow_c C f vb vc vd _ kB fn _ w0 wr (HK.out.keep hbk) hS hmem HOp.out ((Cd.opdL_none f.ins 0).1 hno) hc0 HI0.out (below_trans hb0 hbk) hw0 rfl)
      unfold FlowPost at HQ
      have HFF := hid hFF
      clear hFF hno
      generalize FlowV C f = fv at HQ HFF
      obtain ⟨fi, fb⟩ := fv
      dsimp only at HQ HFF
      have hlw : w.heap.size < wr.heap.size := by have := HB.out.size; omega
      cases fb with
      | true =>
        go_wp2_with (first
          | (go_at_call 63; refine HQ.out.mono ?_; clear HQ; rintro en w4 ⟨rfl, hg4, h45⟩
             have hf4 : w4.heap[w.heap.size]? = some (.cells #[.int .i64 0, .int .i64 0] 25 (0, 0)) := (hg4.block _ hlw (by simp; omega)).trans ((HB.out.block _ (by omega)).trans hF1)
             obtain ⟨x0, x1, x2, x3, x4⟩ := fault_box hf4
             replace x4 := hid x4
             replace hg4 := hid hg4
             clear hf4)
          | go_in)
        obtain ⟨y0, y1, _⟩ := fault_box (x4.out (.int .i64 0) (.int .i64 0))
        exact ck_fin rfl rfl y0 y1 (by rw [HFF.out]; rfl) (grown_set2 (grown_trans (below_grown hbk) hg4.out) (Nat.le_refl _)) (cell_set2 h45 (by omega))
      | false =>
        go_wp2_with (first
          | (go_at_call 63; refine HQ.out.mono ?_; clear HQ; rintro en w4 ⟨rfl, hg4, h45⟩
             have hf4 : w4.heap[w.heap.size]? = some (.cells #[.int .i64 0, .int .i64 0] 25 (0, 0)) := (hg4.block _ hlw (by simp; omega)).trans ((HB.out.block _ (by omega)).trans hF1)
             obtain ⟨x0, x1, x2, x3, x4⟩ := fault_box hf4
             replace x4 := hid x4
             replace hg4 := hid hg4
             clear hf4)
          | go_in)
        obtain ⟨y0, y1, _⟩ := fault_box (x4.out (.int .i64 17) (.int .i64 (fi : Int)))
        exact ck_fin rfl rfl y0 y1 (by rw [HFF.out]; rfl) (grown_set2 (grown_trans (below_grown hbk) hg4.out) (Nat.le_refl _)) (cell_set2 h45 (by omega))
end Go.Proofs.YtpjbfdpblgjmfaaGreatDoor

namespace Go.Proofs.YtpjbfdpblgjmfaaGreatDoor
open Go.RowKit Go.Maps

def ChcPost (C : Cd.Code) (w : World) (e : Ending) (w' : World) : Prop := e = .returned (.agg #[.int .i64 (Cd.chk C).1, .int .i64 ((Cd.chk C).2 : Nat)]) ∧ Below w.heap.size w w'
theorem chc_fin {C : Cd.Code} {w w' : World} {a' : Act} {fB : Nat} {e : Int} {i : Nat} (hd : a'.defers = []) (h2 : a'.tmps[2]? = some (.pointer (some ⟨fB, 0, none⟩))) (hc : w'.cell? ⟨fB, 0, none⟩ = some (.int .i64 e)) (hc1 : w'.cell? ⟨fB, 1, none⟩ = some (.int .i64 (i : Nat))) (hv : Cd.chk C = (e, i)) (hb : Below w.heap.size w w') : bodyPost Tryz.prog Tryz.f9 (ChcPost C w) .ret a' w' := by
  refine bodyPost_ret (v := .agg #[.int .i64 e, .int .i64 (i : Nat)]) ?_ hd ⟨?_, hb⟩
  · simp [results, Tryz.results9, go_sem, h2, hc, hc1]
  · rw [hv]
theorem bad_yes {C : Cd.Code} (h : (Cd.bad0 C || C.hans.any (Cd.hanBad C)) = true) : Cd.chk C = (14, 0) := by rw [Cd.chk_bad, if_pos h]
theorem bad_no {C : Cd.Code} (h : (Cd.bad0 C || C.hans.any (Cd.hanBad C)) = false) : Cd.chk C = Cd.funsF C C.funs true 0 := by rw [Cd.chk_bad, h]; rfl
theorem okp {C : Cd.Code} (h : Cd.ok C = true) : (∀ g ∈ C.hans, ∀ x ∈ g.ops, 0 ≤ x) ∧ ∀ f ∈ C.funs, ∀ x ∈ f.ins, Cd.fits x.op 22 = true := by
  unfold Cd.ok at h
  simp only [Bool.and_eq_true, List.all_eq_true] at h
  obtain ⟨⟨⟨_, _⟩, h2⟩, h3⟩ := h
  refine ⟨fun g hg x hx => ?_, fun f hf x hx => ?_⟩
  · have := h2 g hg
    simp only [Cd.hanOk, Bool.and_eq_true, List.all_eq_true] at this
    have := this.2 x hx
    simp only [Cd.fits, Bool.and_eq_true, decide_eq_true_eq] at this
    exact this.1
  · have := h3 f hf
    simp only [Cd.funOk, Bool.and_eq_true, List.all_eq_true] at this
    have := this.2 x hx
    simp only [Cd.insOk, Bool.and_eq_true] at this
    exact this.1.1.1.1.1

theorem chk_below {W wr w7 : World} {o : Obj} (h : Below W.heap.size W wr) (hg : (wr.alloc o).drew.grownBy w7 (some wr.heap.size)) : Below W.heap.size W w7 :=
  ⟨hg.os.trans h.os, hg.tape.trans h.tape, hg.output.trans h.output, by have h1 := hg.size; have h2 := h.size; simp at h1; omega, fun k hk => by
    have hk2 : k < wr.heap.size := Nat.lt_of_lt_of_le hk h.size
    exact ((hg.block k (by simp; omega) (by simp; omega)).trans (Below.heap_alloc wr o k hk2)).trans (h.block k hk)⟩
set_option maxRecDepth 100000 in
set_option maxHeartbeats 8000000 in
theorem ccheck_any (C : Cd.Code) (vb vc vd : Value) (w : World) (hM : CodeM w vb vc vd C) (hok : Cd.ok C = true) :
    Calls Tryz.prog 9 #[codeV2 C vb vc vd] w (ChcPost C w) := by
  have hS := Cd.ok_small hok
  obtain ⟨hpo, hfo⟩ := okp hok
  have hcn : C.shape.length ≤ 65535 ∧ C.ops.length ≤ 255 ∧ C.hans.length ≤ 65535 ∧ C.funs.length ≤ 65535 := by
    unfold Cd.ok Cd.counts at hok
    simp only [Bool.and_eq_true, decide_eq_true_eq] at hok
    exact ⟨hok.1.1.1.1.1.1, hok.1.1.1.1.1.2, hok.1.1.1.1.2, hok.1.1.1.2⟩
  obtain ⟨hsh, hl3, hl1, hl2⟩ := hcn
  clear hok
  have HFo := hid hfo
  have HPo := hid hpo
  clear hfo hpo
  unfold codeV2
  go_enter Tryz.func9, Tryz.ntmps9
  have HM := hid hM
  obtain ⟨⟨ao, co, rfl, hco, hx1⟩, ⟨ah, ch, rfl, hch, hx2⟩, ⟨af, cf, rfl, hcf, hx3⟩⟩ := hM
  have HX3 := hid hx3
  clear hx1 hx2 hx3
  go_upto_region 1 with fail
  obtain ⟨W, hW⟩ : ∃ W, ((w.alloc (.cells #[.string ⟨C.shape.toArray⟩, .slice ao C.ops.length co, .slice ah C.hans.length ch, .slice af C.funs.length cf] 38)).alloc (.cells #[.int .i64 0, .int .i64 0] 25)) = W := ⟨_, rfl⟩
  have hbW : Below w.heap.size w W := by rw [← hW]; exact ((Below.refl _ _).alloc (Nat.le_refl _) _).alloc (by simp) _
  have c0 : W.cell? ⟨w.heap.size, 0, none⟩ = some (.string ⟨C.shape.toArray⟩) := by rw [← hW]; simp
  have c1 : W.cell? ⟨w.heap.size, 1, none⟩ = some (.slice ao C.ops.length co) := by rw [← hW]; simp
  have c2 : W.cell? ⟨w.heap.size, 2, none⟩ = some (.slice ah C.hans.length ch) := by rw [← hW]; simp
  have c3 : W.cell? ⟨w.heap.size, 3, none⟩ = some (.slice af C.funs.length cf) := by rw [← hW]; simp
  have cF : W.heap[w.heap.size + 1]? = some (.cells #[.int .i64 0, .int .i64 0] 25 (0, 0)) := by
    rw [← hW]
    have := World.alloc_heap_new (w.alloc (.cells #[.string ⟨C.shape.toArray⟩, .slice ao C.ops.length co, .slice ah C.hans.length ch, .slice af C.funs.length cf] 38)) (.cells #[.int .i64 0, .int .i64 0] 25)
    rw [World.size_alloc] at this
    exact this
  rw [hW]
  clear hW
  have QS := fun (V : World) => isShape_c C.shape V hsh
  have QH := fun (V : World) (hb : Below w.heap.size w V) => sound_c C _ _ _ V (HM.out.keep hb) hl1 hl3 hS.ops HPo.out
  unfold codeV2 at QH
  obtain ⟨x0, x1, x2, x3, x4⟩ := fault_box cF
  have X4 := hid x4
  clear x4
  have hshp := Cd.isSh_whole C.shape
  cases hs1 : Cd.isSh C.shape 1 with
  | false =>
    have HB : Hid (Cd.chk C = (14, 0)) := by
      refine bad_yes ?_
      have : Cd.shp C.shape 1 0 ≠ C.shape.length := by
        intro e
        rw [hs1, e] at hshp
        simp at hshp
      simp [Cd.bad0, this]
    rw [hs1] at QS
    clear hs1 hshp
    go_wp2_with (first
      | (go_at_call 23; refine (QS _).mono ?_; clear QS; rintro en w4 ⟨rfl, hw4⟩; obtain rfl := hw4.symm)
      | go_in)
    obtain ⟨y0, y1, _⟩ := fault_box (X4.out (.int .i64 14) (.int .i64 0))
    exact chc_fin rfl rfl y0 y1 HB.out (below_set2 hbW (Nat.le_succ _))
  | true =>
    have hsp : Cd.shp C.shape 1 0 = C.shape.length := by rw [hs1] at hshp; simpa using hshp.symm
    rw [hs1] at QS
    clear hs1 hshp
    cases hs2 : C.hans.any (Cd.hanBad C) with
    | true =>
      have HB : Hid (Cd.chk C = (14, 0)) := bad_yes (by rw [hs2]; simp)
      rw [hs2] at QH
      clear hs2
      have hsp := hid hsp
      go_wp2_with (first
        | (go_at_call 23; refine (QS _).mono ?_; clear QS; rintro en w4 ⟨rfl, hw4⟩; obtain rfl := hw4.symm)
        | (go_at_call 24; refine (QH _ hbW).mono ?_; clear QH; rintro en w5 ⟨rfl, hb5⟩
           have hf5 : w5.heap[w.heap.size + 1]? = some (.cells #[.int .i64 0, .int .i64 0] 25 (0, 0)) := (hb5.block _ (Array.getElem?_eq_some_iff.1 cF).1).trans cF
           obtain ⟨x0, x1, x2, x3, x4⟩ := fault_box hf5
           have X5 := hid x4
           replace hb5 := hid hb5
           clear x4 hf5)
        | go_in)
      obtain ⟨y0, y1, _⟩ := fault_box (X5.out (.int .i64 14) (.int .i64 0))
      exact chc_fin rfl rfl y0 y1 HB.out (below_set2 (below_trans hbW hb5.out) (Nat.le_succ _))
    | false =>
      rw [hs2] at QH
      have HPc := hid (fun (h : Cd.bad0 C = true) => bad_yes (C := C) (by rw [h]; rfl))
      have HPn := hid (fun (h : Cd.bad0 C = false) => bad_no (C := C) (by rw [h, hs2]; rfl))
      clear hs2
      cases hfs : C.funs with
      | nil =>
        have HB := hid (HPc.out (by simp [Cd.bad0, hfs]))
        have hl0 : C.funs.length = 0 := by rw [hfs]; rfl
        have HFs := hid hfs
        have hsp := hid hsp
        clear hfs
        rw [hl0] at c3 QH
        go_wp2_with (first
          | (go_at_call 23; refine (QS _).mono ?_; clear QS; rintro en w4 ⟨rfl, hw4⟩; obtain rfl := hw4.symm)
          | (go_at_call 24; refine (QH _ hbW).mono ?_; clear QH; rintro en w5 ⟨rfl, hb5⟩
             have d3 := kc hb5 c3
             have hf5 : w5.heap[w.heap.size + 1]? = some (.cells #[.int .i64 0, .int .i64 0] 25 (0, 0)) := (hb5.block _ (Array.getElem?_eq_some_iff.1 cF).1).trans cF
             obtain ⟨x0, x1, x2, x3, x4⟩ := fault_box hf5
             have X5 := hid x4
             replace hb5 := hid hb5
             clear x4 hf5)
          | go_in)
        obtain ⟨y0, y1, _⟩ := fault_box (X5.out (.int .i64 14) (.int .i64 0))
        exact chc_fin rfl rfl y0 y1 HB.out (below_set2 (below_trans hbW hb5.out) (Nat.le_succ _))
      | cons f0 fs =>
        have hl0 : C.funs.length = fs.length + 1 := by rw [hfs]; rfl
        have hne0 : C.funs ≠ [] := by rw [hfs]; simp
        have hf0 : C.funs[0]? = some f0 := by rw [hfs]; rfl
        have b1 : (((C.funs.length : Nat) : Int) == 0) = false := by rw [hl0]; simp; omega
        have b2 : (0 : Int) < C.funs.length := by omega
        have b3 : 0 < C.funs.length := by omega
        obtain ⟨g, k, rfl, hcell⟩ := HX3.out hne0
        have c4 := kc hbW (hcell 0 f0 hf0).1
        simp only [Nat.zero_mul, Nat.add_zero] at c4
        have hbb : Cd.bad0 C = decide (f0.free ≠ 0) := by simp [Cd.bad0, hfs, hsp]
        have HBB := hid hbb
        clear hbb hfs hf0 hne0 hcell hsp
        replace hl0 := hid hl0
        by_cases hfr : f0.free = 0
        · have HB := hid (HPn.out (by rw [HBB.out]; simp [hfr]))
          rw [hfr] at c4
          clear hfr
          go_wp2_with (first
            | (go_at_call 23; refine (QS _).mono ?_; clear QS; rintro en w4 ⟨rfl, hw4⟩; obtain rfl := hw4.symm)
            | (go_at_call 24; refine (QH _ hbW).mono ?_; clear QH; rintro en w5 ⟨rfl, hb5⟩
               have d3 := kc hb5 c3
               have d4 := kc hb5 c4
               replace hb5 := hid hb5)
            | go_in)
          clear x0 x1 x2 x3 X4 d3 d4 c4 b1
          have HF0 : Hid (Cd.chk C = Cd.funsF C (C.funs.drop 0) (decide (0 = 0)) 0) := by rw [Hid, List.drop_zero]; exact HB.out
          go_loopw [3, 34] (fun av t wr => ∃ m at_ : Nat, t = .int .i64 m ∧ av = .int .i64 at_ ∧ m ≤ C.funs.length ∧ at_ ≤ m * 65535 ∧ Hid (Below W.heap.size W wr) ∧ Hid (Cd.chk C = Cd.funsF C (C.funs.drop m) (decide (m = 0)) at_)) (fun _ t _ => C.funs.length - (intOf t).toNat)
          case atStart => exact ⟨0, 0, rfl, rfl, Nat.zero_le _, Nat.zero_le _, hb5, HF0⟩
          case round =>
            obtain ⟨m, at_, rfl, rfl, hm, hat, HB, HF⟩ := hrel
            have d0 := kc HB.out c0
            have d1 := kc HB.out c1
            have d2 := kc HB.out c2
            have d3 := kc HB.out c3
            by_cases hlt : m < C.funs.length
            · obtain ⟨f, hf, htk, hmem, hne⟩ := at_some hlt
              obtain ⟨g', k', hgk, hcell⟩ := HX3.out hne
              simp only [Option.some.injEq, Addr.mk.injEq, and_true] at hgk
              obtain ⟨rfl, rfl⟩ := hgk
              obtain ⟨q0, q1, u, q2, hI⟩ := hcell m f hf
              have hil := hS.ins f hmem
              have HI := hid hI
              obtain ⟨ai, ci, rfl, hci, _⟩ := hI
              have e2 := kc (below_trans hbW HB.out) q2
              have hgb : g < wr.heap.size := block_lt_of_cell e2
              have hgl : (m : Int) < C.funs.length := by omega
              have HDr : Hid (C.funs.drop m = f :: C.funs.drop (m + 1)) := Cd.drop_cons hf
              have hbx : Hid (Below w.heap.size w (wr.alloc (.cells #[.string ⟨C.shape.toArray⟩, .slice ao C.ops.length co, .slice ah C.hans.length ch, .slice (some ⟨g, k, none⟩) C.funs.length cf, .int .i64 m, .slice ai f.ins.length ci, .slice none 0 0] 89)).drew) := (below_trans (below_trans hbW HB.out) ((Below.refl _ _).alloc (Nat.le_refl _) _)).drew
              have hkk : Kk C f (.slice ao C.ops.length co) (.slice ah C.hans.length ch) (.slice (some ⟨g, k, none⟩) C.funs.length cf) (.slice ai f.ins.length ci) wr.heap.size m (.slice none 0 0) (wr.alloc (.cells #[.string ⟨C.shape.toArray⟩, .slice ao C.ops.length co, .slice ah C.hans.length ch, .slice (some ⟨g, k, none⟩) C.funs.length cf, .int .i64 m, .slice ai f.ins.length ci, .slice none 0 0] 89)).drew := ⟨HM.out.keep hbx.out, HI.out.keep hbx.out, World.alloc_heap_new wr _, hf⟩
              have HQ := hid (check_c C f _ _ _ _ wr.heap.size m w _ hkk hS hmem (by omega) (HFo.out f hmem) HM.out HI.out hbx.out (by have := below_trans hbW HB.out; exact this.size))
              unfold CkPost at HQ
              have hfi := Cd.funF_le C f (decide (m = 0))
              have HFn : Hid (Cd.chk C = if (Cd.funF C f (decide (m = 0))).1 = 0 then Cd.funsF C (C.funs.drop (m + 1)) false (at_ + f.ins.length) else ((Cd.funF C f (decide (m = 0))).1, at_ + (Cd.funF C f (decide (m = 0))).2)) := by rw [Hid, HF.out, HDr.out, Cd.funsF]
              obtain ⟨_, k4, k5, k6, _⟩ := hkk.cells
              have k5' : (wr.alloc (.cells #[.string ⟨C.shape.toArray⟩, .slice ao C.ops.length co, .slice ah C.hans.length ch, .slice (some ⟨g, k, none⟩) C.funs.length cf, .int .i64 m, .slice ai f.ins.length ci, .slice none 0 0] 89)).drew.cell? ⟨wr.heap.size, 5, none⟩ = some (.slice ai f.ins.length ci) := k5
              clear hkk hcell hne q0 q1 q2 hf htk k4 k5 k6
              generalize Cd.funF C f (decide (m = 0)) = fv at HQ HFn hfi
              obtain ⟨fe, fi⟩ := fv
              dsimp only at HQ HFn hfi
              by_cases hfe : fe = 0
              · subst hfe
                simp only [if_true] at HFn
                have hwr : IntKind.i64.wrap ((at_ : Int) + f.ins.length) = at_ + f.ins.length := by rw [IntKind.wrap_i64]; omega
                go_upto_region 7 with fail
                refine wp_region_held_drew (S := (fun w' => w'.cell? ⟨w.heap.size, 0, none⟩ = some (.string ⟨C.shape.toArray⟩) ∧ w'.cell? ⟨w.heap.size, 1, none⟩ = some (.slice ao C.ops.length co) ∧ w'.cell? ⟨w.heap.size, 2, none⟩ = some (.slice ah C.hans.length ch) ∧ w'.cell? ⟨w.heap.size, 3, none⟩ = some (.slice (some ⟨g, k, none⟩) C.funs.length cf) ∧ w'.cell? ⟨g, k + m * 3 + 2, none⟩ = some (.slice ai f.ins.length ci))) (by kernel_rfl) (by first | trivial | ((try dsimp only); go_keep)) (fun hHeld => ?_)
                refine wpAnyH_take (i := 0) (v := ?vvc21) rfl (by kernel_rfl) (by kernel_rfl) (by kernel_rfl) (fun _ _ _ h => h) (Or.inl ⟨by rfl, ?yyc21⟩) (by assumption) ?rrc21
                case yyc21 => (intro w' hSw; (try dsimp only at hSw); go_simp; (try with_reducible rfl))
                try simp only [Act.put, List.setIfInBounds_toArray, List.set_cons_zero, List.set_cons_succ]
                refine wpAnyH_take (i := 1) (v := ?vvc22) rfl (by kernel_rfl) (by kernel_rfl) (by kernel_rfl) (fun _ _ _ h => h) (Or.inl ⟨by rfl, ?yyc22⟩) (by assumption) ?rrc22
                case yyc22 => (intro w' hSw; (try dsimp only at hSw); go_simp; (try with_reducible rfl))
                try simp only [Act.put, List.setIfInBounds_toArray, List.set_cons_zero, List.set_cons_succ]
                refine wpAnyH_take (i := 2) (v := ?vvc23) rfl (by kernel_rfl) (by kernel_rfl) (by kernel_rfl) (fun _ _ _ h => h) (Or.inl ⟨by rfl, ?yyc23⟩) (by assumption) ?rrc23
                case yyc23 => (intro w' hSw; (try dsimp only at hSw); go_simp; (try with_reducible rfl))
                try simp only [Act.put, List.setIfInBounds_toArray, List.set_cons_zero, List.set_cons_succ]
                refine wpAnyH_take (i := 3) (v := ?vvc24) rfl (by kernel_rfl) (by kernel_rfl) (by kernel_rfl) (fun _ _ _ h => h) (Or.inl ⟨by rfl, ?yyc24⟩) (by assumption) ?rrc24
                case yyc24 => (intro w' hSw; (try dsimp only at hSw); go_simp; (try with_reducible rfl))
                try simp only [Act.put, List.setIfInBounds_toArray, List.set_cons_zero, List.set_cons_succ]
                refine wpAnyH_take (i := 4) (v := ?vvc25) rfl (by kernel_rfl) (by kernel_rfl) (by kernel_rfl) (fun _ _ _ h => h) (Or.inl ⟨by rfl, ?yyc25⟩) (by assumption) ?rrc25
                case yyc25 => (intro w' hSw; (try dsimp only at hSw); go_simp; (try with_reducible rfl))
                try simp only [Act.put, List.setIfInBounds_toArray, List.set_cons_zero, List.set_cons_succ]
                refine wpAnyH_take (i := 5) (v := ?vvc26) rfl (by kernel_rfl) (by kernel_rfl) (by kernel_rfl) (fun _ _ _ h => h) (Or.inl ⟨by rfl, ?yyc26⟩) (by assumption) ?rrc26
                case yyc26 => (intro w' hSw; (try dsimp only at hSw); go_simp; (try with_reducible rfl))
                try simp only [Act.put, List.setIfInBounds_toArray, List.set_cons_zero, List.set_cons_succ]
                refine wpAnyH_take (i := 6) (v := ?vvc27) rfl (by kernel_rfl) (by kernel_rfl) (by kernel_rfl) (fun _ _ _ h => h) (Or.inl ⟨by rfl, ?yyc27⟩) (by assumption) ?rrc27
                case yyc27 => (intro w' hSw; (try dsimp only at hSw); go_simp; (try with_reducible rfl))
                try simp only [Act.put, List.setIfInBounds_toArray, List.set_cons_zero, List.set_cons_succ]
                refine wpAnyH_take (i := 7) (v := ?vvc28) rfl (by kernel_rfl) (by kernel_rfl) (by kernel_rfl) (fun _ _ _ h => h) (Or.inl ⟨by rfl, ?yyc28⟩) (by assumption) ?rrc28
                case yyc28 => (intro w' hSw; (try dsimp only at hSw); go_simp; (try with_reducible rfl))
                try simp only [Act.put, List.setIfInBounds_toArray, List.set_cons_zero, List.set_cons_succ]
                refine wpAnyH_take (i := 8) (v := ?vvc29) rfl (by kernel_rfl) (by kernel_rfl) (by kernel_rfl) (fun _ _ _ h => h) (Or.inl ⟨by rfl, ?yyc29⟩) (by assumption) ?rrc29
                case yyc29 => (intro w' hSw; (try dsimp only at hSw); go_simp; (try with_reducible rfl))
                try simp only [Act.put, List.setIfInBounds_toArray, List.set_cons_zero, List.set_cons_succ]
                refine wpAnyH_ready (rs := [9]) (by kernel_rfl) (by simp) (AllReadyH.cons rfl (fun K hK => ?_) AllReadyH.nil)
                go_simp
                skip
                clear hHeld
                refine hK.out _ _ ?hs (fun hHeld => ?_)
                case hs => (first | trivial | ((try dsimp only); go_keep) | ((try dsimp only); simp [*, World.cell?_alloc_some, World.cell?_setCell_far, World.cell?_setCell_other]))
                clear hK K
                try simp only [Act.put, List.setIfInBounds_toArray, List.set_cons_zero, List.set_cons_succ]
                refine wpAnyH_take (i := 10) (v := ?vvc30) rfl (by kernel_rfl) (by kernel_rfl) (by kernel_rfl) (fun _ _ _ h => h) (Or.inl ⟨by rfl, ?yyc30⟩) (by assumption) ?rrc30
                case yyc30 => (intro w' hSw; (try dsimp only at hSw); go_simp; (try with_reducible rfl))
                try simp only [Act.put, List.setIfInBounds_toArray, List.set_cons_zero, List.set_cons_succ]
                refine wpAnyH_done (by kernel_rfl) ?_ _
                clear hHeld
                go_wp2_with (first
                  | (go_at_call 25; refine HQ.out.mono ?_; clear HQ; rintro en w7 ⟨rfl, hg7, k7⟩
                     have hb7 : Below W.heap.size W w7 := chk_below HB.out hg7
                     have hs7 : wr.heap.size < w7.heap.size := by have := hg7.size; simp at this; omega
                     replace hg7 := hid hg7
                     replace hb7 := hid hb7)
                  | go_in)
                refine ⟨⟨m + 1, at_ + f.ins.length, by simp, by simp, by omega, by omega, below_trans hb7.out ((Below.refl _ _).alloc (Nat.le_refl _) _), ?_⟩, by simp [intOf]; omega⟩
                rw [Hid, HFn.out, show decide (m + 1 = 0) = false by simp]
              · simp only [hfe, if_false] at HFn
                have hfe2 : (fe != 0) = true := by simpa using hfe
                have hwr : IntKind.i64.wrap ((at_ : Int) + fi) = at_ + fi := by rw [IntKind.wrap_i64]; omega
                go_upto_region 7 with fail
                refine wp_region_held_drew (S := (fun w' => w'.cell? ⟨w.heap.size, 0, none⟩ = some (.string ⟨C.shape.toArray⟩) ∧ w'.cell? ⟨w.heap.size, 1, none⟩ = some (.slice ao C.ops.length co) ∧ w'.cell? ⟨w.heap.size, 2, none⟩ = some (.slice ah C.hans.length ch) ∧ w'.cell? ⟨w.heap.size, 3, none⟩ = some (.slice (some ⟨g, k, none⟩) C.funs.length cf) ∧ w'.cell? ⟨g, k + m * 3 + 2, none⟩ = some (.slice ai f.ins.length ci))) (by kernel_rfl) (by first | trivial | ((try dsimp only); go_keep)) (fun hHeld => ?_)
                refine wpAnyH_take (i := 0) (v := ?vve31) rfl (by kernel_rfl) (by kernel_rfl) (by kernel_rfl) (fun _ _ _ h => h) (Or.inl ⟨by rfl, ?yye31⟩) (by assumption) ?rre31
                case yye31 => (intro w' hSw; (try dsimp only at hSw); go_simp; (try with_reducible rfl))
                try simp only [Act.put, List.setIfInBounds_toArray, List.set_cons_zero, List.set_cons_succ]
                refine wpAnyH_take (i := 1) (v := ?vve32) rfl (by kernel_rfl) (by kernel_rfl) (by kernel_rfl) (fun _ _ _ h => h) (Or.inl ⟨by rfl, ?yye32⟩) (by assumption) ?rre32
                case yye32 => (intro w' hSw; (try dsimp only at hSw); go_simp; (try with_reducible rfl))
                try simp only [Act.put, List.setIfInBounds_toArray, List.set_cons_zero, List.set_cons_succ]
                refine wpAnyH_take (i := 2) (v := ?vve33) rfl (by kernel_rfl) (by kernel_rfl) (by kernel_rfl) (fun _ _ _ h => h) (Or.inl ⟨by rfl, ?yye33⟩) (by assumption) ?rre33
                case yye33 => (intro w' hSw; (try dsimp only at hSw); go_simp; (try with_reducible rfl))
                try simp only [Act.put, List.setIfInBounds_toArray, List.set_cons_zero, List.set_cons_succ]
                refine wpAnyH_take (i := 3) (v := ?vve34) rfl (by kernel_rfl) (by kernel_rfl) (by kernel_rfl) (fun _ _ _ h => h) (Or.inl ⟨by rfl, ?yye34⟩) (by assumption) ?rre34
                case yye34 => (intro w' hSw; (try dsimp only at hSw); go_simp; (try with_reducible rfl))
                try simp only [Act.put, List.setIfInBounds_toArray, List.set_cons_zero, List.set_cons_succ]
                refine wpAnyH_take (i := 4) (v := ?vve35) rfl (by kernel_rfl) (by kernel_rfl) (by kernel_rfl) (fun _ _ _ h => h) (Or.inl ⟨by rfl, ?yye35⟩) (by assumption) ?rre35
                case yye35 => (intro w' hSw; (try dsimp only at hSw); go_simp; (try with_reducible rfl))
                try simp only [Act.put, List.setIfInBounds_toArray, List.set_cons_zero, List.set_cons_succ]
                refine wpAnyH_take (i := 5) (v := ?vve36) rfl (by kernel_rfl) (by kernel_rfl) (by kernel_rfl) (fun _ _ _ h => h) (Or.inl ⟨by rfl, ?yye36⟩) (by assumption) ?rre36
                case yye36 => (intro w' hSw; (try dsimp only at hSw); go_simp; (try with_reducible rfl))
                try simp only [Act.put, List.setIfInBounds_toArray, List.set_cons_zero, List.set_cons_succ]
                refine wpAnyH_take (i := 6) (v := ?vve37) rfl (by kernel_rfl) (by kernel_rfl) (by kernel_rfl) (fun _ _ _ h => h) (Or.inl ⟨by rfl, ?yye37⟩) (by assumption) ?rre37
                case yye37 => (intro w' hSw; (try dsimp only at hSw); go_simp; (try with_reducible rfl))
                try simp only [Act.put, List.setIfInBounds_toArray, List.set_cons_zero, List.set_cons_succ]
                refine wpAnyH_take (i := 7) (v := ?vve38) rfl (by kernel_rfl) (by kernel_rfl) (by kernel_rfl) (fun _ _ _ h => h) (Or.inl ⟨by rfl, ?yye38⟩) (by assumption) ?rre38
                case yye38 => (intro w' hSw; (try dsimp only at hSw); go_simp; (try with_reducible rfl))
                try simp only [Act.put, List.setIfInBounds_toArray, List.set_cons_zero, List.set_cons_succ]
                refine wpAnyH_take (i := 8) (v := ?vve39) rfl (by kernel_rfl) (by kernel_rfl) (by kernel_rfl) (fun _ _ _ h => h) (Or.inl ⟨by rfl, ?yye39⟩) (by assumption) ?rre39
                case yye39 => (intro w' hSw; (try dsimp only at hSw); go_simp; (try with_reducible rfl))
                try simp only [Act.put, List.setIfInBounds_toArray, List.set_cons_zero, List.set_cons_succ]
                refine wpAnyH_ready (rs := [9]) (by kernel_rfl) (by simp) (AllReadyH.cons rfl (fun K hK => ?_) AllReadyH.nil)
                go_simp
                skip
                clear hHeld
                refine hK.out _ _ ?hs (fun hHeld => ?_)
                case hs => (first | trivial | ((try dsimp only); go_keep) | ((try dsimp only); simp [*, World.cell?_alloc_some, World.cell?_setCell_far, World.cell?_setCell_other]))
                clear hK K
                try simp only [Act.put, List.setIfInBounds_toArray, List.set_cons_zero, List.set_cons_succ]
                refine wpAnyH_take (i := 10) (v := ?vve40) rfl (by kernel_rfl) (by kernel_rfl) (by kernel_rfl) (fun _ _ _ h => h) (Or.inl ⟨by rfl, ?yye40⟩) (by assumption) ?rre40
                case yye40 => (intro w' hSw; (try dsimp only at hSw); go_simp; (try with_reducible rfl))
                try simp only [Act.put, List.setIfInBounds_toArray, List.set_cons_zero, List.set_cons_succ]
                refine wpAnyH_done (by kernel_rfl) ?_ _
                clear hHeld
                go_wp2_with (first
                  | (go_at_call 25; refine HQ.out.mono ?_; clear HQ; rintro en w7 ⟨rfl, hg7, k7⟩
                     have hb7 : Below W.heap.size W w7 := chk_below HB.out hg7
                     have hs7 : wr.heap.size < w7.heap.size := by have := hg7.size; simp at this; omega
                     have hbk : w7.heap[w.heap.size + 1]? = some (.cells #[.int .i64 0, .int .i64 0] 25 (0, 0)) := (hb7.block _ (Array.getElem?_eq_some_iff.1 cF).1).trans cF
                     obtain ⟨x0, x1, x2, x3, x4⟩ := fault_box hbk
                     have X4 := hid x4
                     have hbs : w.heap.size + 1 < w7.heap.size := (Array.getElem?_eq_some_iff.1 hbk).1
                     replace hg7 := hid hg7
                     replace hb7 := hid hb7
                     clear x4 hbk)
                  | go_in)
                obtain ⟨y0, y1, _⟩ := fault_box (blk_alloc (x := .cells #[.int .i64 fe, .int .i64 (fi : Int)] 25) (X4.out (.int .i64 fe) (.int .i64 ((at_ : Int) + fi))))
                exact chc_fin rfl rfl y0 (by rw [Int.natCast_add]; exact y1) HFn.out (below_trans (below_set2 (below_trans hbW hb7.out) (Nat.le_succ _)) ((Below.refl _ _).alloc (Nat.le_refl _) _))
            · have em : m = C.funs.length := by omega
              subst em
              have hgl : ¬ (C.funs.length : Int) < C.funs.length := by omega
              have hbk : wr.heap[w.heap.size + 1]? = some (.cells #[.int .i64 0, .int .i64 0] 25 (0, 0)) := (HB.out.block _ (Array.getElem?_eq_some_iff.1 cF).1).trans cF
              obtain ⟨x0, x1, x2, x3, x4⟩ := fault_box hbk
              have X4 := hid x4
              clear x4
              go_wp2
              obtain ⟨y0, y1, _⟩ := fault_box (X4.out (.int .i64 0) (.int .i64 0))
              refine chc_fin rfl rfl y0 y1 ?_ (below_set2 (below_trans hbW HB.out) (Nat.le_succ _))
              rw [HF.out, List.drop_length]
              rfl
        · have HB := hid (HPc.out (by rw [HBB.out]; simp [hfr]))
          have hfr' : (f0.free != 0) = true := by simpa using hfr
          go_wp2_with (first
            | (go_at_call 23; refine (QS _).mono ?_; clear QS; rintro en w4 ⟨rfl, hw4⟩; obtain rfl := hw4.symm)
            | (go_at_call 24; refine (QH _ hbW).mono ?_; clear QH; rintro en w5 ⟨rfl, hb5⟩
               have d3 := kc hb5 c3
               have d4 := kc hb5 c4
               have hf5 : w5.heap[w.heap.size + 1]? = some (.cells #[.int .i64 0, .int .i64 0] 25 (0, 0)) := (hb5.block _ (Array.getElem?_eq_some_iff.1 cF).1).trans cF
               obtain ⟨x0, x1, x2, x3, x4⟩ := fault_box hf5
               have X5 := hid x4
               replace hb5 := hid hb5
               clear x4 hf5)
            | go_in)
          obtain ⟨y0, y1, _⟩ := fault_box (X5.out (.int .i64 14) (.int .i64 0))
          exact chc_fin rfl rfl y0 y1 HB.out (below_set2 (below_trans hbW hb5.out) (Nat.le_succ _))
end Go.Proofs.YtpjbfdpblgjmfaaGreatDoor
