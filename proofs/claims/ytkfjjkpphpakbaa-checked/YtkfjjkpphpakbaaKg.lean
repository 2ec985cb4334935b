/-
  The program's checker: flow.
-/
import Derived.Test.YtkfjjkpphpakbaaKf
set_option linter.unusedVariables false
set_option linter.unusedSimpArgs false
namespace Go.Proofs.Ytkfjjkpphpakbaa
open Go.RowKit Go.Maps

/-- The program's fault of a function, as its flow tells it. -/
def FlowV (C : Cd.Code) (f : Cd.Fun) : Nat × Bool := match Cd.flowPL C f.ins 0 (Cd.Kn.put (fun _ => none) 0 0) with
  | (some i, _) => (i, false)
  | (none, K) => (f.ins.length, (K f.ins.length).isNone)
def FlowPost (C : Cd.Code) (f : Cd.Fun) (w : World) (kB : Nat) (v : Value) (e : Ending) (w' : World) : Prop := e = .returned (.tuple #[.int .i64 ((FlowV C f).1 : Nat), .bool (FlowV C f).2]) ∧ w.grownBy w' (some kB) ∧ w'.cell? ⟨kB, 5, none⟩ = some v
theorem flow_fin {C : Cd.Code} {f : Cd.Fun} {w w' : World} {kB : Nat} {v : Value} {a' : Act} {i : Nat} {b : Bool} (hd : a'.defers = []) (h2 : a'.tmps[2]? = some (.int .i64 (i : Nat))) (h3 : a'.tmps[3]? = some (.bool b)) (hv : FlowV C f = (i, b)) (hb : w.grownBy w' (some kB)) (h5 : w'.cell? ⟨kB, 5, none⟩ = some v) : bodyPost Try.prog Try.f28 (FlowPost C f w kB v) .ret a' w' := by
  refine bodyPost_ret (v := .tuple #[.int .i64 (i : Nat), .bool b]) ?_ hd ⟨?_, hb, h5⟩
  · simp [results, Try.results28, go_sem, h2, h3]
  · rw [hv]
theorem stepP_vals {C : Cd.Code} {x : Cd.Ins} {i : Nat} {K K' : Cd.Kn} (h : Cd.stepP C x i K = some K') (htk : (0 ≤ (Cd.takes C x).1 ∧ (Cd.takes C x).1 ≤ 100000) ∧ 0 ≤ (Cd.takes C x).2 ∧ (Cd.takes C x).2 ≤ 1) (hv : ∀ b m, K b = some m → 0 ≤ m ∧ m ≤ 4000) : ∀ b m, K' b = some m → 0 ≤ m ∧ m ≤ 4000 := by
  unfold Cd.stepP at h
  split at h
  · cases h
  · rename_i n hn
    have := hv _ _ hn
    split at h
    · cases h
    · rename_i h1
      split at h
      · cases h
      · rename_i h2
        intro b m hb
        rcases Cd.flowP_vals _ _ _ h b m hb with e | e
        · omega
        · exact hv b m e
theorem flowPL_step {C : Cd.Code} {l : List Cd.Ins} {i : Nat} {x : Cd.Ins} {K K' : Cd.Kn} (hx : l[i]? = some x) (h : Cd.stepP C x i K = some K') : Cd.flowPL C (l.drop i) i K = Cd.flowPL C (l.drop (i + 1)) (i + 1) K' := by
  rw [Cd.drop_cons hx, Cd.flowPL, h]
theorem flowPL_bad {C : Cd.Code} {l : List Cd.Ins} {i : Nat} {x : Cd.Ins} {K : Cd.Kn} (hx : l[i]? = some x) (h : Cd.stepP C x i K = none) : Cd.flowPL C (l.drop i) i K = (some i, K) := by
  rw [Cd.drop_cons hx, Cd.flowPL, h]

theorem Cd.opd_jump {C : Cd.Code} {f : Cd.Fun} {first : Bool} {x : Cd.Ins} (h : Cd.opd C f first x = 0) (e : x.op = 18 ∨ x.op = 19) : x.a < f.ins.length := by
  unfold Cd.opd at h
  rw [if_pos e] at h
  by_cases hx : x.a < f.ins.length
  · exact hx
  · rw [if_pos (by omega)] at h
    cases h
structure FlS (C : Cd.Code) (f : Cd.Fun) (vb vc vd v : Value) (kB fn g : Nat) (w0 w wr : World) : Prop where
  k : Kk C f vb vc vd v kB fn (knV g f.ins.length) wr
  b : Below w0.heap.size w0 wr
  g : w.grownBy wr (some kB)
theorem FlS.row {C : Cd.Code} {f : Cd.Fun} {vb vc vd v : Value} {kB fn g : Nat} {w0 w wr wr' : World} (h : FlS C f vb vc vd v kB fn g w0 w wr) (hg : wr.grownBy wr' (some g)) (hgk : g ≠ kB) (hc : CodeM w0 vb vc vd C) (hi : InssM w0 v f.ins) (hw0 : w0.heap.size ≤ g) (hwg : w.heap.size ≤ g) : FlS C f vb vc vd v kB fn g w0 w wr' := by
  obtain ⟨a, b⟩ := h.k.grown hg hgk hc hi h.b hw0
  exact ⟨a, b, grown_then h.g hg hwg⟩
theorem row_neg (w : World) (g n i : Nat) (h : w.rowIs g 3 n (fun j => .int .i64 (if j < i then -1 else 0))) : (w.setCell ⟨g, i, none⟩ (.int .i64 (-1))).rowIs g 3 n (fun j => .int .i64 (if j < i + 1 then -1 else 0)) := by
  refine (World.rowIs.set h i _).congr ?_
  intro j hj
  by_cases e : j = i
  · rw [if_pos e, if_pos (by omega)]
  · rw [if_neg e]
    by_cases e2 : j < i
    · rw [if_pos e2, if_pos (by omega)]
    · rw [if_neg e2, if_neg (by omega)]
set_option maxRecDepth 100000 in
set_option maxHeartbeats 8000000 in
theorem flow_c (C : Cd.Code) (f : Cd.Fun) (vb vc vd v : Value) (kB fn : Nat) (kn : Value) (w0 w : World) (hK : Kk C f vb vc vd v kB fn kn w) (hS : Cd.Small C) (hmem : f ∈ C.funs)
    (hop : ∀ x ∈ f.ins, Cd.fits x.op 22 = true) (hall : ∀ x ∈ f.ins, Cd.opd C f (decide (fn = 0)) x = 0) (hc0 : CodeM w0 vb vc vd C) (hi0 : InssM w0 v f.ins) (hb0 : Below w0.heap.size w0 w) (hw0 : w0.heap.size ≤ kB) (hkn : kn = .slice none 0 0) :
    Calls Try.prog 28 #[.pointer (some ⟨kB, 0, none⟩)] w (FlowPost C f w kB v) := by
  have hn := hS.ins f hmem
  have hkB := hK.lt
  obtain ⟨_, c4, c5, c6, hfz⟩ := hK.cells
  subst hkn
  have HI0 := hid hi0
  obtain ⟨ai, ci, rfl, hci, _⟩ := hi0
  have hmk := run_make_row' (P := Try.prog) 48 3 (.int .i64 0) 8 Try.underlying48 Try.infoInt rfl .i64 .i64 (f.ins.length + 1) (by omega) (by omega)
  rw [show (((f.ins.length + 1 : Nat)) : Int) = (f.ins.length : Int) + 1 by omega] at hmk
  have hwl : IntKind.i64.wrap ((f.ins.length : Int) + 1) = f.ins.length + 1 := by rw [IntKind.wrap_i64]; omega
  have hS0 : FlS C f vb vc vd (.slice ai f.ins.length ci) kB fn w.heap.size w0 w ((w.setCell ⟨kB, 6, none⟩ (.slice (some ⟨w.heap.size, 0, none⟩) (f.ins.length + 1) (f.ins.length + 1))).alloc (.cells (madeCells #[.int .i64 0] (f.ins.length + 1)) 3)) := by
    have hb1 : Below w0.heap.size w0 ((w.setCell ⟨kB, 6, none⟩ (.slice (some ⟨w.heap.size, 0, none⟩) (f.ins.length + 1) (f.ins.length + 1))).alloc (.cells (madeCells #[.int .i64 0] (f.ins.length + 1)) 3)) := (hb0.setCell hw0 _).alloc (by simpa using hb0.size) _
    refine ⟨⟨hc0.keep hb1, HI0.out.keep hb1, ?_, hK.hf⟩, hb1, grown_alloc (grown_set (grown_refl _ _) _) _⟩
    exact blk_alloc (blk_set hK.hk)
  have hR0 : ((w.setCell ⟨kB, 6, none⟩ (.slice (some ⟨w.heap.size, 0, none⟩) (f.ins.length + 1) (f.ins.length + 1))).alloc (.cells (madeCells #[.int .i64 0] (f.ins.length + 1)) 3)).rowIs w.heap.size 3 (f.ins.length + 1) (fun j => .int .i64 (if j < 0 then -1 else 0)) := by
    obtain ⟨c, h1, h2, h3⟩ := World.rowIs_made (w.setCell ⟨kB, 6, none⟩ (.slice (some ⟨w.heap.size, 0, none⟩) (f.ins.length + 1) (f.ins.length + 1))) (.int .i64 0) (f.ins.length + 1) 3
    refine ⟨c, by simpa using h1, h2, fun j hj => ?_⟩
    rw [h3 j hj]
    simp
  have HSt := hid hS0
  have HRo := hid hR0
  have HAll := hid hall
  have HOp := hid hop
  clear hS0 hR0 hK hall hop
  have hgk : w.heap.size ≠ kB := by omega
  have hw0g : w0.heap.size ≤ w.heap.size := hb0.size
  go_enter Try.func28, Try.ntmps28
  go_wp2
  generalize (w.setCell ⟨kB, 6, none⟩ (.slice (some ⟨w.heap.size, 0, none⟩) (f.ins.length + 1) (f.ins.length + 1))).alloc (.cells (madeCells #[.int .i64 0] (f.ins.length + 1)) 3) = W2 at HSt HRo
  clear c4 c5 c6 hfz hmk
  obtain ⟨g, hgg⟩ : ∃ g, w.heap.size = g := ⟨_, rfl⟩
  have hwg : w.heap.size ≤ g := by omega
  rw [hgg] at HSt HRo hgk hw0g ⊢
  clear hgg
  go_loopw [21] (fun t wr => ∃ i : Nat, t = .int .i64 i ∧ i ≤ f.ins.length + 1 ∧ Hid (FlS C f vb vc vd (.slice ai f.ins.length ci) kB fn g w0 w wr) ∧ Hid (wr.rowIs g 3 (f.ins.length + 1) (fun j => .int .i64 (if j < i then -1 else 0)))) (fun t _ => f.ins.length + 1 - (intOf t).toNat)
  case atStart => exact ⟨0, rfl, Nat.zero_le _, HSt, HRo⟩
  case round =>
    obtain ⟨i, rfl, hi, HS, HR⟩ := hrel
    obtain ⟨_, c4, c5, c6, hfz⟩ := HS.out.k.cells
    unfold knV at c6
    by_cases hlt : i < f.ins.length + 1
    · have z0 := HR.out.cell hlt
      have zf := HR.out.frozen i
      have hgl : (i : Int) < (f.ins.length : Int) + 1 := by omega
      have HR2 := hid (row_neg _ _ _ _ HR.out)
      have HS2 := hid (HS.out.row (grown_set (i := i) (grown_refl wr (some g)) (.int .i64 (-1))) hgk hc0 HI0.out hw0g hwg)
      go_wp2
      go_roundw
      case rel => exact ⟨i + 1, by simp, by omega, HS2, HR2⟩
      case measure => simp [intOf]; omega
    · have ei : i = f.ins.length + 1 := by omega
      subst ei
      have hgl : ¬ (((f.ins.length : Int) + 1) < (f.ins.length : Int) + 1) := by omega
      have z0 := HR.out.cell (show 0 < f.ins.length + 1 by omega)
      have zf := HR.out.frozen 0
      have hgl0 : (0 : Int) < (f.ins.length : Int) + 1 := by omega
      have HR2 : Hid (KR (wr.setCell ⟨g, 0, none⟩ (.int .i64 0)) g f.ins.length (Cd.Kn.put (fun _ => none) 0 0)) := by
        refine (World.rowIs.set HR.out 0 _).congr ?_
        intro j hj
        unfold Cd.Kn.put
        by_cases e : j = 0
        · simp [e, encK]
        · have e2 : ¬ ((j : Int) = 0) := by omega
          simp [e, hj, encK]
      have HS2 := hid (HS.out.row (grown_set (i := 0) (grown_refl wr (some g)) (.int .i64 0)) hgk hc0 HI0.out hw0g hwg)
      obtain ⟨_, e4, e5, e6, _⟩ := HS2.out.k.cells
      go_wp2
      generalize wr.setCell ⟨g, 0, none⟩ (.int .i64 0) = W3 at HR2 HS2
      clear c4 c5 c6 hfz z0 zf e4 e5 e6
      go_loopw [41] (fun t wr => ∃ (i : Nat) (K : Cd.Kn), t = .int .i64 i ∧ i ≤ f.ins.length ∧ Hid (FlS C f vb vc vd (.slice ai f.ins.length ci) kB fn g w0 w wr) ∧ Hid (KR wr g f.ins.length K) ∧ Hid (∀ b m, K b = some m → 0 ≤ m ∧ m ≤ 4000) ∧ Hid (Cd.flowPL C f.ins 0 (Cd.Kn.put (fun _ => none) 0 0) = Cd.flowPL C (f.ins.drop i) i K)) (fun t _ => f.ins.length - (intOf t).toNat)
      case atStart =>
        refine ⟨0, _, rfl, Nat.zero_le _, HS2, HR2, ?_, by rw [Hid, List.drop_zero]⟩
        intro b m hb
        unfold Cd.Kn.put at hb
        split at hb
        · cases hb; omega
        · cases hb
      case round =>
        obtain ⟨i, K, rfl, hi, HS, HR, HV, HF⟩ := hrel
        obtain ⟨_, c4, c5, c6, hfz⟩ := HS.out.k.cells
        unfold knV at c6
        by_cases hlt : i < f.ins.length
        · obtain ⟨x, hx, _, hxm, _⟩ := at_some hlt
          have hgl : (i : Int) < (f.ins.length : Int) := by omega
          have hxa := hS.a f hmem x hxm
          have h0 := HAll.out x hxm
          have h13 : x.op = 13 → 0 ≤ x.a ∧ x.a < C.funs.length := fun e => ⟨hxa.1, Cd.opd_13 h0 e⟩
          have h21 : x.op = 21 → 0 ≤ x.a ∧ x.a < C.hans.length := fun e => ⟨hxa.1, Cd.opd_21 h0 e⟩
          have hj : x.op = 18 ∨ x.op = 19 → 0 ≤ x.a ∧ x.a < f.ins.length := fun e => ⟨hxa.1, Cd.opd_jump h0 e⟩
          have htk := Cd.takes_small hS h13 h21
          have QS := step_c C f vb vc vd _ kB fn g i x K w0 wr HS.out.k HR.out hx hS hmem HV.out (HOp.out x hxm) h13 h21 hj hc0 HI0.out HS.out.b hw0g
          clear h13 h21 hj h0
          cases hR : Cd.stepP C x i K with
          | none =>
            rw [hR] at QS
            have HFn := hid (HF.out.trans (flowPL_bad hx hR))
            have HQ := hid QS
            clear QS hR hx htk
            go_wp2_with (first
              | (go_at_call 36; refine HQ.out.mono ?_; clear HQ; rintro en w4 ⟨hg4, hres⟩
                 obtain rfl := hres
                 replace hg4 := hid hg4)
              | go_in)
            exact flow_fin rfl rfl rfl (by unfold FlowV; rw [HFn.out]) (grown_then HS.out.g hg4.out hwg) (hg4.out.cell c5 (by simp; omega))
          | some K1 =>
            rw [hR] at QS
            have HFn := hid (HF.out.trans (flowPL_step hx hR))
            have HV1 := hid (stepP_vals hR htk HV.out)
            have HQ := hid QS
            clear QS hR hx htk
            go_wp2_with (first
              | (go_at_call 36; refine HQ.out.mono ?_; clear HQ; rintro en w4 ⟨hg4, hres⟩
                 obtain ⟨rfl, hr4⟩ := hres
                 replace hr4 := hid hr4
                 replace hg4 := hid hg4)
              | go_in)
            go_roundw
            case rel => exact ⟨i + 1, K1, by simp, by omega, HS.out.row hg4.out hgk hc0 HI0.out hw0g hwg, hr4, HV1, HFn⟩
            case measure => simp [intOf]; omega
        · have ei : i = f.ins.length := by omega
          subst ei
          have hgl : ¬ ((f.ins.length : Int) < (f.ins.length : Int)) := by omega
          have r0 : wr.cell? ⟨g, f.ins.length, none⟩ = some (.int .i64 (encK (K f.ins.length))) := World.rowIs.cell HR.out (by omega : f.ins.length < f.ins.length + 1)
          have hgl1 : (f.ins.length : Int) < (f.ins.length : Int) + 1 := by omega
          have HFv : Hid (FlowV C f = (f.ins.length, (K f.ins.length).isNone)) := by
            rw [Hid]
            unfold FlowV
            rw [HF.out, List.drop_length]
            rfl
          have HVl := hid (HV.out f.ins.length)
          generalize K f.ins.length = kk at r0 HFv HVl
          cases kk with
          | none =>
            have hen : encK (none : Option Int) = -1 := rfl
            rw [hen] at r0
            go_wp2
            go_quiet (fail)
            go_wp2
            exact flow_fin rfl rfl rfl HFv.out ⟨HS.out.g.os, HS.out.g.tape, HS.out.g.output, HS.out.g.size, HS.out.g.block⟩ c5
          | some m =>
            have hen : encK (some m) = m := rfl
            rw [hen] at r0
            have hm := HVl.out m rfl
            have hm1 : (m == -1) = false := by simp; omega
            go_wp2
            go_quiet (fail)
            go_wp2
            exact flow_fin rfl rfl rfl HFv.out ⟨HS.out.g.os, HS.out.g.tape, HS.out.g.output, HS.out.g.size, HS.out.g.block⟩ c5
end Go.Proofs.Ytkfjjkpphpakbaa
