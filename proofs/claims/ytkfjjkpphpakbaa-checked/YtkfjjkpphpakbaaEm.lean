/-
  The document's fun as a whole.
-/
import Derived.Test.YtkfjjkpphpakbaaEl
set_option linter.unusedVariables false
set_option linter.unusedSimpArgs false
namespace Go.Proofs.Ytkfjjkpphpakbaa
open Go.RowKit Go.Maps

namespace Cd
theorem opd_13 {C : Code} {f : Fun} {first : Bool} {x : Ins} (h : opd C f first x = 0) (e : x.op = 13) : x.a < C.funs.length := by
  unfold opd at h
  rw [if_neg (by omega)] at h
  by_cases hx : x.a < C.funs.length
  · exact hx
  · rw [if_pos (by simp [e]; omega)] at h
    cases h
theorem opd_21 {C : Code} {f : Fun} {first : Bool} {x : Ins} (h : opd C f first x = 0) (e : x.op = 21) : x.a < C.hans.length := by
  unfold opd at h
  rw [if_neg (by omega)] at h
  by_cases hx : x.a < C.hans.length
  · exact hx
  · rw [if_pos (by simp [e]; omega)] at h
    cases h
/-- A code whose numbers are small. -/
structure Small (C : Code) : Prop where
  free : ∀ f ∈ C.funs, 0 ≤ f.free ∧ f.free ≤ 65535
  ops : ∀ h ∈ C.hans, h.ops.length ≤ 255
  ins : ∀ f ∈ C.funs, f.ins.length ≤ 65535
  a : ∀ f ∈ C.funs, ∀ x ∈ f.ins, 0 ≤ x.a ∧ x.a ≤ 65535
theorem ok_small {C : Code} (h : ok C = true) : Small C := by
  unfold ok at h
  simp only [Bool.and_eq_true, List.all_eq_true] at h
  obtain ⟨⟨⟨_, _⟩, h2⟩, h3⟩ := h
  refine ⟨fun f hf => ?_, fun g hg => ?_, fun f hf => ?_, fun f hf x hx => ?_⟩
  · have := h3 f hf
    simp only [funOk, fits, Bool.and_eq_true, decide_eq_true_eq] at this
    exact this.1.1.1
  · have := h2 g hg
    simp only [hanOk, Bool.and_eq_true, decide_eq_true_eq] at this
    exact this.1
  · have := h3 f hf
    simp only [funOk, fits, Bool.and_eq_true, decide_eq_true_eq] at this
    exact this.1.2
  · have := h3 f hf
    simp only [funOk, Bool.and_eq_true, List.all_eq_true] at this
    have := this.2 x hx
    simp only [insOk, fits, Bool.and_eq_true, decide_eq_true_eq] at this
    exact this.1.2
theorem takes_small {C : Code} {x : Ins} (h : Small C) (h13 : x.op = 13 → 0 ≤ x.a ∧ x.a < C.funs.length) (h21 : x.op = 21 → 0 ≤ x.a ∧ x.a < C.hans.length) : (0 ≤ (takes C x).1 ∧ (takes C x).1 ≤ 100000) ∧ 0 ≤ (takes C x).2 ∧ (takes C x).2 ≤ 1 := by
  unfold takes
  split
  · simp
  split
  · simp
  split
  · simp
  split
  · simp
  split
  · simp
  split
  · rename_i e
    obtain ⟨a1, a2⟩ := h13 e
    have hl : x.a.toNat < C.funs.length := by omega
    have := h.free (C.funs.getD x.a.toNat ⟨0, 0, []⟩) (by simp [List.getD, hl])
    simp only
    omega
  split
  · rename_i e
    obtain ⟨a1, a2⟩ := h21 e
    have hl : x.a.toNat < C.hans.length := by omega
    have := h.ops (C.hans.getD x.a.toNat ⟨false, []⟩) (by simp [List.getD, hl])
    simp only
    omega
  · simp
end Cd

theorem opd_loop2 {W : World} {C : Cd.Code} {f : Cd.Fun} {vb vc vd v : Value} {cB fB : Nat} {first : Bool} (a0 : Act) (Q0 : Exit → Act → World → Prop) (hsz : a0.tmps.size = 182) (hdf : a0.defers = []) (h8 : a0.tmps[8]? = some (.int .i64 0)) (h2 : a0.tmps.getD 2 undef = .bool first) (h3 : a0.tmps.getD 3 undef = .pointer (some ⟨cB, 0, none⟩)) (h4 : a0.tmps.getD 4 undef = .pointer (some ⟨fB, 0, none⟩)) (hQ0 : ∀ c a a' w, a.defers = a'.defers → Q0 (.panic c) a w → Q0 (.panic c) a' w)
    (hF : Fc C f vb vc vd v cB fB W) (hn : f.ins.length ≤ 65535)
    (hret : ∀ a' w' e (i : Nat), a'.defers = [] → a'.tmps[6]? = some (.int .i64 e) → a'.tmps[7]? = some (.int .i64 (i : Nat)) → Below W.heap.size W w' → Cd.opdL C f first f.ins 0 = some (e, i) → Q0 .ret a' w')
    (hexit : ∀ a' w', FrL [0, 1, 2, 3, 4] (fun i => a0.tmps.getD i undef) a' → Below W.heap.size W w' → (∀ x ∈ f.ins, Cd.opd C f first x = 0) → Q0 (.exit 0) a' w') : Code.wp Try.prog (Code.loop ((Try.f18.body.map (fun c => (loopsOf c).getD 0 .skip)).getD .skip)) Q0 a0 W :=
  opd_loop (fun i => a0.tmps.getD i undef) Q0 hQ0 h2 h3 h4 hF hn a0 (frl_self hsz hdf (by simp)) h8 hret hexit

theorem kn_start (w : World) : ∃ w2, (Instr.mapUpdate 74 (.map (some w.heap.size)) (.int .i64 0) (.int .i64 0)).run Try.prog (w.alloc (.map #[] 0)) = .ok () w2 ∧ KnM w2 w.heap.size 1 (Cd.Kn.put (fun _ => none) 0 0) ∧ (w.alloc (.map #[] 0)).grownBy w2 (some w.heap.size) := by
  have h0 : (w.alloc (.map #[] 0)).ownsMap Try.prog 3 (plainElem (H := Unit) Try.prog 3) w.heap.size 0 (.map []) := World.ownsMap_made w Try.prog 3 _
  have hk : (Lit.int .i64 0).wf = true := by decide
  obtain ⟨w2, hrun, h1, h2⟩ := h0.update (t := 74) (e := 3) Try.keyed3 Try.underlying74 (by unfold maxLen; omega) (key3 (k := 0) hk) (plainElem_int Try.underlying3 hk)
  refine ⟨w2, hrun, ⟨_, h1, fun b hb => ?_⟩, h2⟩
  by_cases e : b = 0
  · subst e
    have hkl : WideAt.IsKeyLit (.int .i64 0) := by simp [WideAt.IsKeyLit]
    rw [has_put_same h0.isMap hkl, atKey_put_same h0.isMap hkl]
    simp [Cd.Kn.put]
  · have hne : Lit.int IntKind.i64 b ≠ .int .i64 0 := fun e2 => e (by injection e2)
    rw [has_put_other hne, atKey_put_other hne]
    simp [Cd.Kn.put, e, Maps.has, DataW.atKey]
theorem flow_loop2 {W0 W : World} {C : Cd.Code} {f : Cd.Fun} {vb vc vd : Value} {cB fB cv mB m : Nat} {va : Option Addr} {K : Cd.Kn} (a0 : Act) (Q0 : Exit → Act → World → Prop) (hsz : a0.tmps.size = 182) (hdf : a0.defers = []) (h11 : a0.tmps[11]? = some (.int .i64 0)) (h3 : a0.tmps.getD 3 undef = .pointer (some ⟨cB, 0, none⟩)) (h4 : a0.tmps.getD 4 undef = .pointer (some ⟨fB, 0, none⟩)) (h10 : a0.tmps.getD 10 undef = .map (some mB))
    (hF : Fc C f vb vc vd (.slice va f.ins.length cv) cB fB W0) (hn : f.ins.length ≤ 65535) (hW : Below W0.heap.size W0 W) (hmB : W0.heap.size ≤ mB) (hM : KnM W mB m K) (hm : m ≤ 2) (hKv : ∀ a v, K a = some v → 0 ≤ v ∧ v ≤ 4000)
    (hT : ∀ x ∈ f.ins, ∀ w', Below W0.heap.size W0 w' → Calls Try.prog 30 #[codeV2 C vb vc vd, insV2 x] w' fun e w2 => e = .returned (.tuple #[.int .i64 (Cd.takes C x).1, .int .i64 (Cd.takes C x).2]) ∧ Below w'.heap.size w' w2)
    (htk : ∀ x ∈ f.ins, (0 ≤ (Cd.takes C x).1 ∧ (Cd.takes C x).1 ≤ 100000) ∧ 0 ≤ (Cd.takes C x).2 ∧ (Cd.takes C x).2 ≤ 1) (hwa : ∀ x ∈ f.ins, (Lit.int .i64 x.a).wf = true)
    (hret : ∀ a' w' (i : Nat) K', a'.defers = [] → a'.tmps[6]? = some (.int .i64 17) → a'.tmps[7]? = some (.int .i64 (i : Nat)) → Below W0.heap.size W0 w' → Cd.flowL C f.ins 0 K = (some i, K') → Q0 .ret a' w')
    (hexit : ∀ a' w' K' m', FrL [0, 1, 2, 3, 4, 10] (fun i => a0.tmps.getD i undef) a' → Cd.flowL C f.ins 0 K = (none, K') → KnM w' mB m' K' → Below W0.heap.size W0 w' → Q0 (.exit 2) a' w') : Code.wp Try.prog (Code.loop ((Try.f18.body.map (fun c => (loopsOf c).getD 1 .skip)).getD .skip)) Q0 a0 W := by
  obtain ⟨a, c, h1, h2, h3'⟩ := hF.im
  cases h1
  by_cases he : f.ins = []
  · exact flow_loop (gv := 0) (kv := 0) (fun i => a0.tmps.getD i undef) Q0 h3 h4 h10 hF (fun h => absurd he h) (fun i x hx => by rw [he] at hx; simp at hx) hn hW hmB hM hm hKv hT htk hwa a0 (frl_self hsz hdf (by simp)) h11 hret hexit
  · obtain ⟨g, k, e, hcell⟩ := h3' he
    exact flow_loop (gv := g) (kv := k) (fun i => a0.tmps.getD i undef) Q0 h3 h4 h10 hF (fun _ => e) hcell hn hW hmB hM hm hKv hT htk hwa a0 (frl_self hsz hdf (by simp)) h11 hret hexit
def FunPost (C : Cd.Code) (f : Cd.Fun) (first : Bool) (w : World) (e : Ending) (w' : World) : Prop := e = .returned (.tuple #[.int .i64 (Cd.funF C f first).1, .int .i64 ((Cd.funF C f first).2 : Nat)]) ∧ Below w.heap.size w w'
theorem fun_fin {C : Cd.Code} {f : Cd.Fun} {first : Bool} {w w' : World} {a' : Act} {e : Int} {i : Nat} (hd : a'.defers = []) (h6 : a'.tmps[6]? = some (.int .i64 e)) (h7 : a'.tmps[7]? = some (.int .i64 (i : Nat))) (hv : Cd.funF C f first = (e, i)) (hb : Below w.heap.size w w') : bodyPost Try.prog Try.f18 (FunPost C f first w) .ret a' w' := by
  refine bodyPost_ret (v := .tuple #[.int .i64 e, .int .i64 (i : Nat)]) ?_ hd ⟨?_, hb⟩
  · simp [results, Try.results18, go_sem, h6, h7]
  · rw [hv]
set_option maxRecDepth 100000 in
set_option maxHeartbeats 8000000 in
theorem fun_any (C : Cd.Code) (f : Cd.Fun) (vb vc vd v : Value) (first : Bool) (w : World) (hM : CodeM w vb vc vd C) (hI : InssM w v f.ins) (hS : Cd.Small C) (hmem : f ∈ C.funs) :
    Calls Try.prog 18 #[codeV2 C vb vc vd, funV f v, .bool first] w (FunPost C f first w) := by
  have hn := hS.ins f hmem
  unfold codeV2 funV
  go_enter Try.func18, Try.ntmps18
  have HM := hid hM
  have HI := hid hI
  obtain ⟨⟨ao, co, rfl, hco, hx1⟩, ⟨ah, ch, rfl, hch, hx2⟩, ⟨af, cf, rfl, hcf, hx3⟩⟩ := hM
  obtain ⟨ai, ci, rfl, hci, hx4⟩ := hI
  have HX4 := hid hx4
  clear hx1 hx2 hx3 hx4
  go_wp2
  obtain ⟨W, hW⟩ : ∃ W, ((w.alloc (.cells #[.string ⟨C.shape.toArray⟩, .slice ao C.ops.length co, .slice ah C.hans.length ch, .slice af C.funs.length cf] 26)).alloc (.cells #[.int .i64 f.free, .int .i64 f.slots, .slice ai f.ins.length ci] 35)) = W := ⟨_, rfl⟩
  have hbW : Below w.heap.size w W := by rw [← hW]; exact ((Below.refl _ _).alloc (Nat.le_refl _) _).alloc (by simp) _
  have hF : Fc C f (.slice ao C.ops.length co) (.slice ah C.hans.length ch) (.slice af C.funs.length cf) (.slice ai f.ins.length ci) w.heap.size (w.heap.size + 1) W := by
    refine ⟨HM.out.keep hbW, HI.out.keep hbW, ?_, ?_⟩
    · rw [← hW]; exact blk_alloc (World.alloc_heap_new w _)
    · rw [← hW]
      have := World.alloc_heap_new (w.alloc (.cells #[.string ⟨C.shape.toArray⟩, .slice ao C.ops.length co, .slice ah C.hans.length ch, .slice af C.funs.length cf] 26)) (.cells #[.int .i64 f.free, .int .i64 f.slots, .slice ai f.ins.length ci] 35)
      rw [World.size_alloc] at this
      exact this
  rw [hW]
  clear hW
  refine opd_loop2 (W := W) (first := first) _ _ rfl rfl rfl rfl rfl rfl (fun c a a' w hd h => ⟨hd.symm.trans h.1, h.2⟩) hF hn ?_ ?_
  · intro a' w' e i hd h6 h7 hb hL
    exact fun_fin hd h6 h7 (by unfold Cd.funF; rw [hL]) (below_trans hbW hb)
  · intro a1 w1 hf1 hb1 hall
    obtain ⟨G, rfl, hG⟩ := act_open2 hf1.sz hf1.df
    have g0 : G 0 = _ := hG 0 _ (hf1.k 0 (by simp))
    have g1 : G 1 = _ := hG 1 _ (hf1.k 1 (by simp))
    have g2 : G 2 = .bool first := hG 2 _ (hf1.k 2 (by simp))
    have g3 : G 3 = .pointer (some ⟨w.heap.size, 0, none⟩) := hG 3 _ (hf1.k 3 (by simp))
    have g4 : G 4 = .pointer (some ⟨w.heap.size + 1, 0, none⟩) := hG 4 _ (hf1.k 4 (by simp))
    rw [g2, g3, g4]
    clear hG hf1 g0 g1 g2 g3 g4
    obtain ⟨w2, hrun, hkn, hgr⟩ := kn_start w1
    have hmm := @run_makeMap Try.prog
    have hbw2 : Below W.heap.size W w2 := by
      have h1 : Below w1.heap.size w1 w2 := ⟨hgr.os, hgr.tape, hgr.output, by have := hgr.size; simp at this; omega, fun k hk => (hgr.block k (by simp; omega) (by simp; omega)).trans (Below.heap_alloc _ _ _ hk)⟩
      exact below_trans hb1 h1
    have hmB : W.heap.size ≤ w1.heap.size := hb1.size
    have HR := hid hrun
    obtain ⟨mB, hmB2⟩ : ∃ mB, w1.heap.size = mB := ⟨_, rfl⟩
    rw [hmB2] at hkn hrun hmB
    clear hgr
    go_wp2
    have h13 : ∀ x ∈ f.ins, x.op = 13 → 0 ≤ x.a ∧ x.a < C.funs.length := fun x hx e => ⟨(hS.a f hmem x hx).1, Cd.opd_13 (hall x hx) e⟩
    have h21 : ∀ x ∈ f.ins, x.op = 21 → 0 ≤ x.a ∧ x.a < C.hans.length := fun x hx e => ⟨(hS.a f hmem x hx).1, Cd.opd_21 (hall x hx) e⟩
    have hop0 : Cd.opdL C f first f.ins 0 = none := (Cd.opdL_none f.ins 0).2 hall
    refine flow_loop2 (W0 := W) (W := w2) (m := 1) (K := Cd.Kn.put (fun _ => none) 0 0) _ _ rfl rfl rfl rfl rfl (by rw [← hmB2]; rfl) hF hn hbw2 hmB hkn (by omega) (fun b v hv => ?_) (fun x hx w' hb => takes_any C _ _ _ x w' (hF.cm.keep hb) (h13 x hx) (h21 x hx) (fun h hh => by have := hS.ops h hh; omega)) (fun x hx => Cd.takes_small hS (h13 x hx) (h21 x hx)) (fun x hx => ?_) ?_ ?_
    · unfold Cd.Kn.put at hv
      split at hv
      · cases hv; omega
      · cases hv
    · have := hS.a f hmem x hx
      simp [Lit.wf, IntKind.min, IntKind.max, IntKind.signed, IntKind.bits]
      omega
    · intro a' w' i K' hd h6 h7 hb hL
      exact fun_fin hd h6 h7 (by unfold Cd.funF; rw [hop0, hL]) (below_trans hbW hb)
    · intro a3 w3 K' m' hf3 hL hkn3 hb3
      have hfn : Cd.funF C f first = if (K' f.ins.length).isSome then (17, f.ins.length) else (0, 0) := by unfold Cd.funF; rw [hop0, hL]
      obtain ⟨G3, rfl, hG3⟩ := act_open2 hf3.sz hf3.df
      have g3 : G3 3 = .pointer (some ⟨w.heap.size, 0, none⟩) := hG3 3 _ (hf3.k 3 (by simp))
      have g4 : G3 4 = .pointer (some ⟨w.heap.size + 1, 0, none⟩) := hG3 4 _ (hf3.k 4 (by simp))
      have g10 : G3 10 = .map (some mB) := hG3 10 _ (hf3.k 10 (by simp))
      rw [g3, g4, g10]
      clear hG3 hf3 g3 g4 g10 hrun HR hmm
      obtain ⟨d0, d1, d2, d3, d4, d5, d6⟩ := (hF.keep hb3).cells
      have hwl : (Lit.int .i64 (f.ins.length : Int)).wf = true := by
        simp [Lit.wf, IntKind.min, IntKind.max, IntKind.signed, IntKind.bits]
        omega
      have HWL := hid hwl
      clear hwl
      cases hK : K' f.ins.length with
      | none =>
        have hl := fun (W9 : World) (h9 : KnM W9 mB m' K') {ops rest o a Q} hg m x hop hm hx hk => look_kn W9 (ops := ops) (rest := rest) (o := o) (a := a) (Q := Q) hg m x hop mB m' K' hm h9 f.ins.length HWL.out hx hk
        rw [hK] at hl
        go_wp2_with (first
          | (at_lookup; refine hl _ hkn3 rfl _ _ rfl rfl rfl ?_)
          | go_in)
        exact fun_fin rfl rfl rfl (by rw [hfn, hK]; rfl) (below_trans hbW hb3)
      | some q =>
        have hl := fun (W9 : World) (h9 : KnM W9 mB m' K') {ops rest o a Q} hg m x hop hm hx hk => look_kn W9 (ops := ops) (rest := rest) (o := o) (a := a) (Q := Q) hg m x hop mB m' K' hm h9 f.ins.length HWL.out hx hk
        rw [hK] at hl
        go_wp2_with (first
          | (at_lookup; refine hl _ hkn3 rfl _ _ rfl rfl rfl ?_)
          | go_in)
        go_quiet (fail)
        go_wp2
        exact fun_fin rfl rfl rfl (by rw [hfn, hK]; rfl) (below_trans hbW ⟨hb3.os, hb3.tape, hb3.output, hb3.size, hb3.block⟩)
end Go.Proofs.Ytkfjjkpphpakbaa
