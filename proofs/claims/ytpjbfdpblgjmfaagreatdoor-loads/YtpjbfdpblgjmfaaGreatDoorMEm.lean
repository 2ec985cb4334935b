/-
  The document's fun as a whole.
  The document's Check.
-/
import Derived.Test.YtpjbfdpblgjmfaaGreatDoorMEi
set_option linter.unusedVariables false
set_option linter.unusedSimpArgs false
namespace Go.Proofs.YtpjbfdpblgjmfaaGreatDoor
open Go.RowKit Go.Maps

namespace Cd
theorem opd_13 {C : Code} {f : Fun} {first : Bool} {x : Ins} (h : opd C f first x = 0) (e : x.op = 13) : x.a < C.funs.length := by
  unfold opd at h
  rw [if_neg (by omega)] at h
  by_cases hx : x.a < C.funs.length
  · exact hx
  · rw [if_pos (by simp [e]; omega)] at h
    cases h
theorem opd_21 {C : Code} {f : Fun} {first : Bool} {x : Ins} (h : opd C f first x = 0) (e : x.op = 21) : x.a < C.hans.length := by
  unfold opd at h
  rw [if_neg (by omega)] at h
  by_cases hx : x.a < C.hans.length
  · exact hx
  · rw [if_pos (by simp [e]; omega)] at h
    cases h
/-- A code whose numbers are small. -/
structure Small (C : Code) : Prop where
  free : ∀ f ∈ C.funs, 0 ≤ f.free ∧ f.free ≤ 65535
  ops : ∀ h ∈ C.hans, h.ops.length ≤ 255
  ins : ∀ f ∈ C.funs, f.ins.length ≤ 65535
  a : ∀ f ∈ C.funs, ∀ x ∈ f.ins, 0 ≤ x.a ∧ x.a ≤ 65535
theorem ok_small {C : Code} (h : ok C = true) : Small C := by
  unfold ok at h
  simp only [Bool.and_eq_true, List.all_eq_true] at h
  obtain ⟨⟨⟨_, _⟩, h2⟩, h3⟩ := h
  refine ⟨fun f hf => ?_, fun g hg => ?_, fun f hf => ?_, fun f hf x hx => ?_⟩
  · have := h3 f hf
    simp only [funOk, fits, Bool.and_eq_true, decide_eq_true_eq] at this
    exact this.1.1.1
  · have := h2 g hg
    simp only [hanOk, Bool.and_eq_true, decide_eq_true_eq] at this
    exact this.1
  · have := h3 f hf
    simp only [funOk, fits, Bool.and_eq_true, decide_eq_true_eq] at this
    exact this.1.2
  · have := h3 f hf
    simp only [funOk, Bool.and_eq_true, List.all_eq_true] at this
    have := this.2 x hx
    simp only [insOk, fits, Bool.and_eq_true, decide_eq_true_eq] at this
    exact this.1.2
theorem takes_small {C : Code} {x : Ins} (h : Small C) (h13 : x.op = 13 → 0 ≤ x.a ∧ x.a < C.funs.length) (h21 : x.op = 21 → 0 ≤ x.a ∧ x.a < C.hans.length) : (0 ≤ (takes C x).1 ∧ (takes C x).1 ≤ 100000) ∧ 0 ≤ (takes C x).2 ∧ (takes C x).2 ≤ 1 := by
  unfold takes
  split
  · simp
  split
  · simp
  split
  · simp
  split
  · simp
  split
  · simp
  split
  · rename_i e
    obtain ⟨a1, a2⟩ := h13 e
    have hl : x.a.toNat < C.funs.length := by omega
    have := h.free (C.funs.getD x.a.toNat ⟨0, 0, []⟩) (by simp [List.getD, hl])
    simp only
    omega
  split
  · rename_i e
    obtain ⟨a1, a2⟩ := h21 e
    have hl : x.a.toNat < C.hans.length := by omega
    have := h.ops (C.hans.getD x.a.toNat ⟨false, []⟩) (by simp [List.getD, hl])
    simp only
    omega
  · simp
end Cd

theorem opd_loop2 {W : World} {C : Cd.Code} {f : Cd.Fun} {vb vc vd v : Value} {cB fB : Nat} {first : Bool} (a0 : Act) (Q0 : Exit → Act → World → Prop) (hsz : a0.tmps.size = 182) (hdf : a0.defers = []) (h8 : a0.tmps[8]? = some (.int .i64 0)) (h2 : a0.tmps.getD 2 undef = .bool first) (h3 : a0.tmps.getD 3 undef = .pointer (some ⟨cB, 0, none⟩)) (h4 : a0.tmps.getD 4 undef = .pointer (some ⟨fB, 0, none⟩)) (hQ0 : ∀ c a a' w, a.defers = a'.defers → Q0 (.panic c) a w → Q0 (.panic c) a' w)
    (hF : Fc C f vb vc vd v cB fB W) (hn : f.ins.length ≤ 65535)
    (hret : ∀ a' w' e (i : Nat), a'.defers = [] → a'.tmps[6]? = some (.int .i64 e) → a'.tmps[7]? = some (.int .i64 (i : Nat)) → Below W.heap.size W w' → Cd.opdL C f first f.ins 0 = some (e, i) → Q0 .ret a' w')
    (hexit : ∀ a' w', FrL [0, 1, 2, 3, 4] (fun i => a0.tmps.getD i undef) a' → Below W.heap.size W w' → (∀ x ∈ f.ins, Cd.opd C f first x = 0) → Q0 (.exit 0) a' w') : Code.wp Tryz.prog (Code.loop ((Tryz.f38.body.map (fun c => (loopsOf c).getD 0 .skip)).getD .skip)) Q0 a0 W :=
  opd_loop (fun i => a0.tmps.getD i undef) Q0 hQ0 h2 h3 h4 hF hn a0 (frl_self hsz hdf (by simp)) h8 hret hexit

theorem kn_start (w : World) : ∃ w2, (Instr.mapUpdate 181 (.map (some w.heap.size)) (.int .i64 0) (.int .i64 0)).run Tryz.prog (w.alloc (.map #[] 0)) = .ok () w2 ∧ KnM w2 w.heap.size 1 (Cd.Kn.put (fun _ => none) 0 0) ∧ (w.alloc (.map #[] 0)).grownBy w2 (some w.heap.size) := by
  have h0 : (w.alloc (.map #[] 0)).ownsMap Tryz.prog 3 (plainElem (H := Unit) Tryz.prog 3) w.heap.size 0 (.map []) := World.ownsMap_made w Tryz.prog 3 _
  have hk : (Lit.int .i64 0).wf = true := by decide
  obtain ⟨w2, hrun, h1, h2⟩ := h0.update (t := 181) (e := 3) Tryz.keyed3 Tryz.underlying181 (by unfold maxLen; omega) (key3 (k := 0) hk) (plainElem_int Tryz.underlying3 hk)
  refine ⟨w2, hrun, ⟨_, h1, fun b hb => ?_⟩, h2⟩
  by_cases e : b = 0
  · subst e
    have hkl : WideAt.IsKeyLit (.int .i64 0) := by simp [WideAt.IsKeyLit]
    rw [has_put_same h0.isMap hkl, atKey_put_same h0.isMap hkl]
    simp [Cd.Kn.put]
  · have hne : Lit.int IntKind.i64 b ≠ .int .i64 0 := fun e2 => e (by injection e2)
    rw [has_put_other hne, atKey_put_other hne]
    simp [Cd.Kn.put, e, Maps.has, DataW.atKey]
theorem flow_loop2 {W0 W : World} {C : Cd.Code} {f : Cd.Fun} {vb vc vd : Value} {cB fB cv mB m : Nat} {va : Option Addr} {K : Cd.Kn} (a0 : Act) (Q0 : Exit → Act → World → Prop) (hsz : a0.tmps.size = 182) (hdf : a0.defers = []) (h11 : a0.tmps[11]? = some (.int .i64 0)) (h3 : a0.tmps.getD 3 undef = .pointer (some ⟨cB, 0, none⟩)) (h4 : a0.tmps.getD 4 undef = .pointer (some ⟨fB, 0, none⟩)) (h10 : a0.tmps.getD 10 undef = .map (some mB))
    (hF : Fc C f vb vc vd (.slice va f.ins.length cv) cB fB W0) (hn : f.ins.length ≤ 65535) (hW : Below W0.heap.size W0 W) (hmB : W0.heap.size ≤ mB) (hM : KnM W mB m K) (hm : m ≤ 2) (hKv : ∀ a v, K a = some v → 0 ≤ v ∧ v ≤ 4000)
    (hT : ∀ x ∈ f.ins, ∀ w', Below W0.heap.size W0 w' → Calls Tryz.prog 71 #[codeV2 C vb vc vd, insV2 x] w' fun e w2 => e = .returned (.tuple #[.int .i64 (Cd.takes C x).1, .int .i64 (Cd.takes C x).2]) ∧ Below w'.heap.size w' w2)
    (htk : ∀ x ∈ f.ins, (0 ≤ (Cd.takes C x).1 ∧ (Cd.takes C x).1 ≤ 100000) ∧ 0 ≤ (Cd.takes C x).2 ∧ (Cd.takes C x).2 ≤ 1) (hwa : ∀ x ∈ f.ins, (Lit.int .i64 x.a).wf = true)
    (hret : ∀ a' w' (i : Nat) K', a'.defers = [] → a'.tmps[6]? = some (.int .i64 17) → a'.tmps[7]? = some (.int .i64 (i : Nat)) → Below W0.heap.size W0 w' → Cd.flowL C f.ins 0 K = (some i, K') → Q0 .ret a' w')
    (hexit : ∀ a' w' K' m', FrL [0, 1, 2, 3, 4, 10] (fun i => a0.tmps.getD i undef) a' → Cd.flowL C f.ins 0 K = (none, K') → KnM w' mB m' K' → Below W0.heap.size W0 w' → Q0 (.exit 2) a' w') : Code.wp Tryz.prog (Code.loop ((Tryz.f38.body.map (fun c => (loopsOf c).getD 1 .skip)).getD .skip)) Q0 a0 W := by
  obtain ⟨a, c, h1, h2, h3'⟩ := hF.im
  cases h1
  by_cases he : f.ins = []
  · exact flow_loop (gv := 0) (kv := 0) (fun i => a0.tmps.getD i undef) Q0 h3 h4 h10 hF (fun h => absurd he h) (fun i x hx => by rw [he] at hx; simp at hx) hn hW hmB hM hm hKv hT htk hwa a0 (frl_self hsz hdf (by simp)) h11 hret hexit
  · obtain ⟨g, k, e, hcell⟩ := h3' he
    exact flow_loop (gv := g) (kv := k) (fun i => a0.tmps.getD i undef) Q0 h3 h4 h10 hF (fun _ => e) hcell hn hW hmB hM hm hKv hT htk hwa a0 (frl_self hsz hdf (by simp)) h11 hret hexit
def FunPost (C : Cd.Code) (f : Cd.Fun) (first : Bool) (w : World) (e : Ending) (w' : World) : Prop := e = .returned (.tuple #[.int .i64 (Cd.funF C f first).1, .int .i64 ((Cd.funF C f first).2 : Nat)]) ∧ Below w.heap.size w w'
theorem fun_fin {C : Cd.Code} {f : Cd.Fun} {first : Bool} {w w' : World} {a' : Act} {e : Int} {i : Nat} (hd : a'.defers = []) (h6 : a'.tmps[6]? = some (.int .i64 e)) (h7 : a'.tmps[7]? = some (.int .i64 (i : Nat))) (hv : Cd.funF C f first = (e, i)) (hb : Below w.heap.size w w') : bodyPost Tryz.prog Tryz.f38 (FunPost C f first w) .ret a' w' := by
  refine bodyPost_ret (v := .tuple #[.int .i64 e, .int .i64 (i : Nat)]) ?_ hd ⟨?_, hb⟩
  · simp [results, Tryz.results38, go_sem, h6, h7]
  · rw [hv]
set_option maxRecDepth 100000 in
set_option maxHeartbeats 8000000 in
theorem fun_any (C : Cd.Code) (f : Cd.Fun) (vb vc vd v : Value) (first : Bool) (w : World) (hM : CodeM w vb vc vd C) (hI : InssM w v f.ins) (hS : Cd.Small C) (hmem : f ∈ C.funs) :
    Calls Tryz.prog 38 #[codeV2 C vb vc vd, funV f v, .bool first] w (FunPost C f first w) := by
  have hn := hS.ins f hmem
  unfold codeV2 funV
  go_enter Tryz.func38, Tryz.ntmps38
  have HM := hid hM
  have HI := hid hI
  obtain ⟨⟨ao, co, rfl, hco, hx1⟩, ⟨ah, ch, rfl, hch, hx2⟩, ⟨af, cf, rfl, hcf, hx3⟩⟩ := hM
  obtain ⟨ai, ci, rfl, hci, hx4⟩ := hI
  have HX4 := hid hx4
  clear hx1 hx2 hx3 hx4
  go_wp2
  obtain ⟨W, hW⟩ : ∃ W, ((w.alloc (.cells #[.string ⟨C.shape.toArray⟩, .slice ao C.ops.length co, .slice ah C.hans.length ch, .slice af C.funs.length cf] 38)).alloc (.cells #[.int .i64 f.free, .int .i64 f.slots, .slice ai f.ins.length ci] 85)) = W := ⟨_, rfl⟩
  have hbW : Below w.heap.size w W := by rw [← hW]; exact ((Below.refl _ _).alloc (Nat.le_refl _) _).alloc (by simp) _
  have hF : Fc C f (.slice ao C.ops.length co) (.slice ah C.hans.length ch) (.slice af C.funs.length cf) (.slice ai f.ins.length ci) w.heap.size (w.heap.size + 1) W := by
    refine ⟨HM.out.keep hbW, HI.out.keep hbW, ?_, ?_⟩
    · rw [← hW]; exact blk_alloc (World.alloc_heap_new w _)
    · rw [← hW]
      have := World.alloc_heap_new (w.alloc (.cells #[.string ⟨C.shape.toArray⟩, .slice ao C.ops.length co, .slice ah C.hans.length ch, .slice af C.funs.length cf] 38)) (.cells #[.int .i64 f.free, .int .i64 f.slots, .slice ai f.ins.length ci] 85)
      rw [World.size_alloc] at this
      exact this
  rw [hW]
  clear hW
  refine opd_loop2 (W := W) (first := first) _ _ rfl rfl rfl rfl rfl rfl (fun c a a' w hd h => ⟨hd.symm.trans h.1, h.2⟩) hF hn ?_ ?_
  · intro a' w' e i hd h6 h7 hb hL
    exact fun_fin hd h6 h7 (by unfold Cd.funF; rw [hL]) (below_trans hbW hb)
  · intro a1 w1 hf1 hb1 hall
    obtain ⟨G, rfl, hG⟩ := act_open2 hf1.sz hf1.df
    have g0 : G 0 = _ := hG 0 _ (hf1.k 0 (by simp))
    have g1 : G 1 = _ := hG 1 _ (hf1.k 1 (by simp))
    have g2 : G 2 = .bool first := hG 2 _ (hf1.k 2 (by simp))
    have g3 : G 3 = .pointer (some ⟨w.heap.size, 0, none⟩) := hG 3 _ (hf1.k 3 (by simp))
    have g4 : G 4 = .pointer (some ⟨w.heap.size + 1, 0, none⟩) := hG 4 _ (hf1.k 4 (by simp))
    rw [g2, g3, g4]
    clear hG hf1 g0 g1 g2 g3 g4
    obtain ⟨w2, hrun, hkn, hgr⟩ := kn_start w1
    have hmm := @run_makeMap Tryz.prog
    have hbw2 : Below W.heap.size W w2 := by
      have h1 : Below w1.heap.size w1 w2 := ⟨hgr.os, hgr.tape, hgr.output, by have := hgr.size; simp at this; omega, fun k hk => (hgr.block k (by simp; omega) (by simp; omega)).trans (Below.heap_alloc _ _ _ hk)⟩
      exact below_trans hb1 h1
    have hmB : W.heap.size ≤ w1.heap.size := hb1.size
    have HR := hid hrun
    obtain ⟨mB, hmB2⟩ : ∃ mB, w1.heap.size = mB := ⟨_, rfl⟩
    rw [hmB2] at hkn hrun hmB
    clear hgr
    go_wp2
    have h13 : ∀ x ∈ f.ins, x.op = 13 → 0 ≤ x.a ∧ x.a < C.funs.length := fun x hx e => ⟨(hS.a f hmem x hx).1, Cd.opd_13 (hall x hx) e⟩
    have h21 : ∀ x ∈ f.ins, x.op = 21 → 0 ≤ x.a ∧ x.a < C.hans.length := fun x hx e => ⟨(hS.a f hmem x hx).1, Cd.opd_21 (hall x hx) e⟩
    have hop0 : Cd.opdL C f first f.ins 0 = none := (Cd.opdL_none f.ins 0).2 hall
    refine flow_loop2 (W0 := W) (W := w2) (m := 1) (K := Cd.Kn.put (fun _ => none) 0 0) _ _ rfl rfl rfl rfl rfl (by rw [← hmB2]; rfl) hF hn hbw2 hmB hkn (by omega) (fun b v hv => ?_) (fun x hx w' hb => takes_any C _ _ _ x w' (hF.cm.keep hb) (h13 x hx) (h21 x hx) (fun h hh => by have := hS.ops h hh; omega)) (fun x hx => Cd.takes_small hS (h13 x hx) (h21 x hx)) (fun x hx => ?_) ?_ ?_
    · unfold Cd.Kn.put at hv
      split at hv
      · cases hv; omega
      · cases hv
    · have := hS.a f hmem x hx
      simp [Lit.wf, IntKind.min, IntKind.max, IntKind.signed, IntKind.bits]
      omega
    · intro a' w' i K' hd h6 h7 hb hL
      exact fun_fin hd h6 h7 (by unfold Cd.funF; rw [hop0, hL]) (below_trans hbW hb)
    · intro a3 w3 K' m' hf3 hL hkn3 hb3
      have hfn : Cd.funF C f first = if (K' f.ins.length).isSome then (17, f.ins.length) else (0, 0) := by unfold Cd.funF; rw [hop0, hL]
      obtain ⟨G3, rfl, hG3⟩ := act_open2 hf3.sz hf3.df
      have g3 : G3 3 = .pointer (some ⟨w.heap.size, 0, none⟩) := hG3 3 _ (hf3.k 3 (by simp))
      have g4 : G3 4 = .pointer (some ⟨w.heap.size + 1, 0, none⟩) := hG3 4 _ (hf3.k 4 (by simp))
      have g10 : G3 10 = .map (some mB) := hG3 10 _ (hf3.k 10 (by simp))
      rw [g3, g4, g10]
      clear hG3 hf3 g3 g4 g10 hrun HR hmm
      obtain ⟨d0, d1, d2, d3, d4, d5, d6⟩ := (hF.keep hb3).cells
      have hwl : (Lit.int .i64 (f.ins.length : Int)).wf = true := by
        simp [Lit.wf, IntKind.min, IntKind.max, IntKind.signed, IntKind.bits]
        omega
      have HWL := hid hwl
      clear hwl
      cases hK : K' f.ins.length with
      | none =>
        have hl := fun (W9 : World) (h9 : KnM W9 mB m' K') {ops rest o a Q} hg m x hop hm hx hk => look_kn W9 (ops := ops) (rest := rest) (o := o) (a := a) (Q := Q) hg m x hop mB m' K' hm h9 f.ins.length HWL.out hx hk
        rw [hK] at hl
        go_wp2_with (first
          | (at_lookup; refine hl _ hkn3 rfl _ _ rfl rfl rfl ?_)
          | go_in)
        exact fun_fin rfl rfl rfl (by rw [hfn, hK]; rfl) (below_trans hbW hb3)
      | some q =>
        have hl := fun (W9 : World) (h9 : KnM W9 mB m' K') {ops rest o a Q} hg m x hop hm hx hk => look_kn W9 (ops := ops) (rest := rest) (o := o) (a := a) (Q := Q) hg m x hop mB m' K' hm h9 f.ins.length HWL.out hx hk
        rw [hK] at hl
        go_wp2_with (first
          | (at_lookup; refine hl _ hkn3 rfl _ _ rfl rfl rfl ?_)
          | go_in)
        go_quiet (fail)
        go_wp2
        exact fun_fin rfl rfl rfl (by rw [hfn, hK]; rfl) (below_trans hbW ⟨hb3.os, hb3.tape, hb3.output, hb3.size, hb3.block⟩)
end Go.Proofs.YtpjbfdpblgjmfaaGreatDoor

namespace Go.Proofs.YtpjbfdpblgjmfaaGreatDoor
open Go.RowKit Go.Maps

namespace Cd
/-- A handler's operations at fault: too great a number, or one twice. -/
def hb (n : Nat) (l : List Int) : Bool := l.any (fun x => decide ((n : Int) ≤ x)) || !decide l.Nodup
theorem hb_bad (C : Code) (h : Han) : hanBad C h = hb C.ops.length h.ops := rfl
theorem hb_nil (n : Nat) : hb n [] = false := by simp [hb]
theorem hb_snoc (n : Nat) (l : List Int) (x : Int) : hb n (l ++ [x]) = (hb n l || decide ((n : Int) ≤ x) || l.any (fun y => y == x)) := by
  unfold hb
  rw [List.any_append]
  have e : (l ++ [x]).Nodup ↔ l.Nodup ∧ ¬ (l.any (fun y => y == x) = true) := by
    rw [List.nodup_append]
    simp
    intro _
    constructor
    · intro h e; exact h x e rfl
    · intro h y hy e; subst e; exact h hy
  rw [Bool.eq_iff_iff]
  simp only [Bool.or_eq_true, Bool.not_eq_true', decide_eq_false_iff_not, e]
  by_cases h1 : l.Nodup <;> by_cases h2 : l.any (fun y => y == x) = true <;> by_cases h3 : l.any (fun y => decide ((n : Int) ≤ y)) = true <;> by_cases h4 : (n : Int) ≤ x <;> simp [h1, h2, h3, h4]
theorem any_take {α : Type} {p : α → Bool} {l : List α} {i : Nat} {x : α} (h : l.take (i + 1) = l.take i ++ [x]) : (l.take (i + 1)).any p = ((l.take i).any p || p x) := by
  rw [h, List.any_append]
  simp
theorem opdL_le {C : Code} {f : Fun} {first : Bool} : ∀ (l : List Ins) (i0 : Nat) (e : Int) (i : Nat), opdL C f first l i0 = some (e, i) → i ≤ i0 + l.length
  | [], _, _, _, h => by simp [opdL] at h
  | x :: l, i0, e, i, h => by
    unfold opdL at h
    split at h
    · have := opdL_le l (i0 + 1) e i h
      simp
      omega
    · simp at h
      omega
theorem flowL_le {C : Code} : ∀ (l : List Ins) (i0 : Nat) (K K' : Kn) (i : Nat), flowL C l i0 K = (some i, K') → i ≤ i0 + l.length
  | [], _, _, _, _, h => by simp [flowL] at h
  | x :: l, i0, K, K', i, h => by
    unfold flowL at h
    simp only [List.length_cons]
    split at h
    · simp at h; omega
    · split at h
      · simp at h; omega
      · split at h
        · simp at h; omega
        · split at h
          · simp at h; omega
          · have := flowL_le l (i0 + 1) _ K' i h
            omega
theorem funF_le (C : Code) (f : Fun) (first : Bool) : (funF C f first).2 ≤ f.ins.length := by
  unfold funF
  split
  · rename_i z hz
    obtain ⟨e, i⟩ := z
    have := opdL_le f.ins 0 e i hz
    simpa using this
  · split
    · rename_i i K hz
      have := flowL_le f.ins 0 _ K i hz
      simpa using this
    · split <;> simp
def bad0 (C : Code) : Bool := decide (shp C.shape 1 0 ≠ C.shape.length) || decide (C.funs = []) || decide ((C.funs.getD 0 ⟨0, 0, []⟩).free ≠ 0)
theorem chk_bad (C : Code) : chk C = if (bad0 C || C.hans.any (hanBad C)) = true then (14, 0) else funsF C C.funs true 0 := by
  unfold chk bad0
  simp only [Bool.or_eq_true, decide_eq_true_eq, or_assoc]
theorem drop_cons {α : Type} {l : List α} {i : Nat} {x : α} (h : l[i]? = some x) : l.drop i = x :: l.drop (i + 1) := by
  obtain ⟨hl, e⟩ := List.getElem?_eq_some_iff.1 h
  rw [List.drop_eq_getElem_cons hl, e]
end Cd

set_option maxRecDepth 100000 in
theorem list_open3 (l : List Value) (h : l.length = 118) : ∃ F : Nat → Value, l = [F 0, F 1, F 2, F 3, F 4, F 5, F 6, F 7, F 8, F 9, F 10, F 11, F 12, F 13, F 14, F 15, F 16, F 17, F 18, F 19, F 20, F 21, F 22, F 23, F 24, F 25, F 26, F 27, F 28, F 29, F 30, F 31, F 32, F 33, F 34, F 35, F 36, F 37, F 38, F 39, F 40, F 41, F 42, F 43, F 44, F 45, F 46, F 47, F 48, F 49, F 50, F 51, F 52, F 53, F 54, F 55, F 56, F 57, F 58, F 59, F 60, F 61, F 62, F 63, F 64, F 65, F 66, F 67, F 68, F 69, F 70, F 71, F 72, F 73, F 74, F 75, F 76, F 77, F 78, F 79, F 80, F 81, F 82, F 83, F 84, F 85, F 86, F 87, F 88, F 89, F 90, F 91, F 92, F 93, F 94, F 95, F 96, F 97, F 98, F 99, F 100, F 101, F 102, F 103, F 104, F 105, F 106, F 107, F 108, F 109, F 110, F 111, F 112, F 113, F 114, F 115, F 116, F 117] ∧ ∀ i v, l[i]? = some v → F i = v := by
  refine ⟨fun i => l.getD i undef, ?_, fun i v hv => by simp [List.getD, hv]⟩
  have e : l = (List.range 118).map (fun i => l.getD i undef) := by
    apply List.ext_getElem?
    intro i
    by_cases hi : i < l.length
    · simp [List.getElem?_range (show i < 118 by omega), List.getD, hi]
    · rw [List.getElem?_eq_none (by omega), List.getElem?_eq_none (by simp; omega)]
  exact e
theorem act_open3 {a : Act} (h : a.tmps.size = 118) (hd : a.defers = []) : ∃ F : Nat → Value, a = ⟨#[F 0, F 1, F 2, F 3, F 4, F 5, F 6, F 7, F 8, F 9, F 10, F 11, F 12, F 13, F 14, F 15, F 16, F 17, F 18, F 19, F 20, F 21, F 22, F 23, F 24, F 25, F 26, F 27, F 28, F 29, F 30, F 31, F 32, F 33, F 34, F 35, F 36, F 37, F 38, F 39, F 40, F 41, F 42, F 43, F 44, F 45, F 46, F 47, F 48, F 49, F 50, F 51, F 52, F 53, F 54, F 55, F 56, F 57, F 58, F 59, F 60, F 61, F 62, F 63, F 64, F 65, F 66, F 67, F 68, F 69, F 70, F 71, F 72, F 73, F 74, F 75, F 76, F 77, F 78, F 79, F 80, F 81, F 82, F 83, F 84, F 85, F 86, F 87, F 88, F 89, F 90, F 91, F 92, F 93, F 94, F 95, F 96, F 97, F 98, F 99, F 100, F 101, F 102, F 103, F 104, F 105, F 106, F 107, F 108, F 109, F 110, F 111, F 112, F 113, F 114, F 115, F 116, F 117], []⟩ ∧ ∀ i v, a.tmps[i]? = some v → F i = v := by
  obtain ⟨⟨l⟩, d⟩ := a
  obtain rfl : d = [] := hd
  obtain ⟨F, h1, h2⟩ := list_open3 l (by simpa using h)
  exact ⟨F, by rw [← h1], fun i v hv => h2 i v (by simpa using hv)⟩
def ChkPost (C : Cd.Code) (w : World) (e : Ending) (w' : World) : Prop := e = .returned (.agg #[.int .i64 (Cd.chk C).1, .int .i64 ((Cd.chk C).2 : Nat)]) ∧ Below w.heap.size w w'
/-- The result lies in the block fB. -/
theorem chk_fin {C : Cd.Code} {w w' : World} {a' : Act} {fB : Nat} {e : Int} {i : Nat} (hd : a'.defers = []) (h2 : a'.tmps[2]? = some (.pointer (some ⟨fB, 0, none⟩))) (hc : w'.cell? ⟨fB, 0, none⟩ = some (.int .i64 e)) (hc1 : w'.cell? ⟨fB, 1, none⟩ = some (.int .i64 (i : Nat))) (hv : Cd.chk C = (e, i)) (hb : Below w.heap.size w w') : bodyPost Tryz.prog Tryz.f16 (ChkPost C w) .ret a' w' := by
  refine bodyPost_ret (v := .agg #[.int .i64 e, .int .i64 (i : Nat)]) ?_ hd ⟨?_, hb⟩
  · simp [results, Tryz.results16, go_sem, h2, hc, hc1]
  · rw [hv]

theorem fault_box {w : World} {b : Nat} {x y : Value} (h : w.heap[b]? = some (.cells #[x, y] 25 (0, 0))) : w.cell? ⟨b, 0, none⟩ = some x ∧ w.cell? ⟨b, 1, none⟩ = some y ∧ w.frozen? ⟨b, 0, none⟩ = false ∧ w.frozen? ⟨b, 1, none⟩ = false ∧ ∀ u v, ((w.setCell ⟨b, 0, none⟩ u).setCell ⟨b, 1, none⟩ v).heap[b]? = some (.cells #[u, v] 25 (0, 0)) := by
  refine ⟨?_, ?_, ?_, ?_, fun u v => ?_⟩
  · simp [World.cell?, h]
  · simp [World.cell?, h]
  · simp [World.frozen?, h]
  · simp [World.frozen?, h]
  · exact blk_set (blk_set h)
theorem below_set2 {w w' : World} {b : Nat} {u v : Value} (h : Below w.heap.size w w') (hb : w.heap.size ≤ b) : Below w.heap.size w ((w'.setCell ⟨b, 0, none⟩ u).setCell ⟨b, 1, none⟩ v) := (h.setCell hb _).setCell hb _
set_option maxRecDepth 100000 in
set_option maxHeartbeats 8000000 in
theorem rcheck_any (C : Cd.Code) (vb vc vd : Value) (w : World) (hM : CodeM w vb vc vd C) (hS : Cd.Small C) (hsh : C.shape.length ≤ 65535) (hl1 : C.hans.length ≤ 65535) (hl2 : C.funs.length ≤ 65535) (hl3 : C.ops.length ≤ 255) :
    Calls Tryz.prog 16 #[codeV2 C vb vc vd] w (ChkPost C w) := by
  unfold codeV2
  go_enter Tryz.func16, Tryz.ntmps16
  have HM := hid hM
  obtain ⟨⟨ao, co, rfl, hco, hx1⟩, ⟨ah, ch, rfl, hch, hx2⟩, ⟨af, cf, rfl, hcf, hx3⟩⟩ := hM
  have HX1 := hid hx1
  have HX2 := hid hx2
  have HX3 := hid hx3
  clear hx1 hx2 hx3
  have hsz := size_mk C.shape
  have HSh := hid (fun (W : World) => shape_any C.shape W (by omega))
  go_upto_region 1 with fail
  obtain ⟨W, hW⟩ : ∃ W, ((w.alloc (.cells #[.string ⟨C.shape.toArray⟩, .slice ao C.ops.length co, .slice ah C.hans.length ch, .slice af C.funs.length cf] 38)).alloc (.cells #[.int .i64 0, .int .i64 0] 25)) = W := ⟨_, rfl⟩
  have hbW : Below w.heap.size w W := by rw [← hW]; exact ((Below.refl _ _).alloc (Nat.le_refl _) _).alloc (by simp) _
  have c0 : W.cell? ⟨w.heap.size, 0, none⟩ = some (.string ⟨C.shape.toArray⟩) := by rw [← hW]; simp
  have c1 : W.cell? ⟨w.heap.size, 1, none⟩ = some (.slice ao C.ops.length co) := by rw [← hW]; simp
  have c2 : W.cell? ⟨w.heap.size, 2, none⟩ = some (.slice ah C.hans.length ch) := by rw [← hW]; simp
  have c3 : W.cell? ⟨w.heap.size, 3, none⟩ = some (.slice af C.funs.length cf) := by rw [← hW]; simp
  have cF : W.heap[w.heap.size + 1]? = some (.cells #[.int .i64 0, .int .i64 0] 25 (0, 0)) := by
    rw [← hW]
    have := World.alloc_heap_new (w.alloc (.cells #[.string ⟨C.shape.toArray⟩, .slice ao C.ops.length co, .slice ah C.hans.length ch, .slice af C.funs.length cf] 38)) (.cells #[.int .i64 0, .int .i64 0] 25)
    rw [World.size_alloc] at this
    exact this
  rw [hW]
  clear hW
  refine wp_mono (Q := Exit.then (fun a' w' => (a'.tmps.size = 118 ∧ a'.defers = []) ∧ a'.tmps[1]? = some (.pointer (some ⟨w.heap.size, 0, none⟩)) ∧ a'.tmps[2]? = some (.pointer (some ⟨w.heap.size + 1, 0, none⟩)) ∧ a'.tmps[3]? = some (.bool (Cd.bad0 C)) ∧ ∃ n, w' = W.drewN n) (fun _ _ _ => False)) ?_ ?_
  · by_cases h0 : Cd.shp C.shape 1 0 = C.shape.length
    · have HS0 := hid h0
      cases hfs : C.funs with
      | nil =>
        have hl0 : C.funs.length = 0 := by rw [hfs]; rfl
        have hb : Cd.bad0 C = true := by simp [Cd.bad0, hfs]
        rw [hb]
        rw [hl0] at c3
        rw [h0] at HSh
        go_quiet (first
        | (go_at_call 37; exact Calls.quiet_of_same (HSh.out _)))
        exact ⟨⟨rfl, rfl⟩, rfl, rfl, by first | rfl | (simp [*]), nq, rfl⟩
      | cons f fs =>
        have hl0 : C.funs.length = fs.length + 1 := by rw [hfs]; rfl
        obtain ⟨g, k, rfl, hcell⟩ := HX3.out (by rw [hfs]; simp)
        have c4 := kc hbW (hcell 0 f (by rw [hfs]; rfl)).1
        have b1 : (((C.funs.length : Nat) : Int) == 0) = false := by rw [hl0]; simp; omega
        have b2 : (0 : Int) < C.funs.length := by omega
        have b3 : 0 < C.funs.length := by omega
        simp only [Nat.zero_mul, Nat.add_zero] at c4
        replace hl0 := hid hl0
        replace hfs := hid hfs
        rw [h0] at HSh
        by_cases hfr : f.free = 0
        · have hb : Cd.bad0 C = false := by have hfs := hfs.out; simp [Cd.bad0, hfs, h0, hfr]
          rw [hb]
          rw [hfr] at c4
          go_quiet (first
        | (go_at_call 37; exact Calls.quiet_of_same (HSh.out _)))
          exact ⟨⟨rfl, rfl⟩, rfl, rfl, by first | rfl | (simp [*]), nq, rfl⟩
        · have hb : Cd.bad0 C = true := by have hfs := hfs.out; simp [Cd.bad0, hfs, h0, hfr]
          rw [hb]
          have hfr' : (f.free != 0) = true := by simpa using hfr
          go_quiet (first
        | (go_at_call 37; exact Calls.quiet_of_same (HSh.out _)))
          exact ⟨⟨rfl, rfl⟩, rfl, rfl, by first | rfl | (simp [*]), nq, rfl⟩
    · have hb : Cd.bad0 C = true := by simp [Cd.bad0, h0]
      rw [hb]
      have h0' : (Cd.shp C.shape 1 0 != (C.shape.length : Int)) = true := by simpa using h0
      go_quiet (first
        | (go_at_call 37; exact Calls.quiet_of_same (HSh.out _)))
      exact ⟨⟨rfl, rfl⟩, rfl, rfl, by first | rfl | (simp [*]), nq, rfl⟩
  · intro e a' w' h
    cases e with
    | normal =>
      obtain ⟨⟨hsz1, hdf1⟩, t1, t2, t3, n, rfl⟩ := h
      obtain ⟨G, rfl, hG⟩ := act_open3 hsz1 hdf1
      have g1 := hG 1 _ t1
      have g2 := hG 2 _ t2
      have g3 := hG 3 _ t3
      rw [g1, g2, g3]
      clear hG g1 g2 g3 t1 t2 t3 hsz1 hdf1
      have HB0 : Hid (Below W.heap.size W (W.drewN n)) := ⟨rfl, rfl, rfl, Nat.le_refl _, fun _ _ => rfl⟩
      go_wp2
      generalize W.drewN n = W1 at HB0
      go_loopw [3, 4] (fun bv t wr => ∃ i : Nat, t = .int .i64 i ∧ bv = .bool (Cd.bad0 C || (C.hans.take i).any (Cd.hanBad C)) ∧ i ≤ C.hans.length ∧ Hid (Below W.heap.size W wr)) (fun _ t _ => C.hans.length - (intOf t).toNat)
      case atStart => exact ⟨0, rfl, by simp, Nat.zero_le _, HB0⟩
      case round =>
        obtain ⟨i, rfl, rfl, hi, HB⟩ := hrel
        have d0 := kc HB.out c0
        have d1 := kc HB.out c1
        have d2 := kc HB.out c2
        have d3 := kc HB.out c3
        by_cases hlt : i < C.hans.length
        · obtain ⟨h, hh, htk, hmem, hne⟩ := at_some hlt
          obtain ⟨g, k, rfl, hcell⟩ := HX2.out hne
          obtain ⟨q0, u, q1, ai, ci, rfl, hci, hci2⟩ := hcell i h hh
          have e0 := kc (below_trans hbW HB.out) q0
          have e1 := kc (below_trans hbW HB.out) q1
          have HI := hid hci2
          have hol := hS.ops h hmem
          have hgl : (i : Int) < C.hans.length := by omega
          have HAn : Hid ((C.hans.take (i + 1)).any (Cd.hanBad C) = ((C.hans.take i).any (Cd.hanBad C) || Cd.hb C.ops.length h.ops)) := by rw [Hid, Cd.any_take htk, Cd.hb_bad]
          clear hcell q0 q1 hci2 htk hne
          generalize hB : (Cd.bad0 C || (C.hans.take i).any (Cd.hanBad C)) = B
          have HBB := hid hB
          clear hB
          go_wp2
          go_loopw [3, 6] (fun bv t wr => ∃ j : Nat, t = .int .i64 j ∧ bv = .bool (B || Cd.hb C.ops.length (h.ops.take j)) ∧ j ≤ h.ops.length ∧ Hid (Below W.heap.size W wr)) (fun _ t _ => h.ops.length - (intOf t).toNat)
          case atStart => exact ⟨0, rfl, by simp [Cd.hb_nil], Nat.zero_le _, HB⟩
          case round =>
            obtain ⟨j, rfl, rfl, hj, HB2⟩ := hrel
            clear d0 d1 d2 d3 e0 e1
            have d1 := kc HB2.out c1
            by_cases hlt2 : j < h.ops.length
            · obtain ⟨x, hx, htk2, hmem2, hne2⟩ := at_some hlt2
              obtain ⟨gi, ki, rfl, hcell2⟩ := HI.out hne2
              have y0 := kc (below_trans hbW HB2.out) (hcell2 j x hx)
              have hgl2 : (j : Int) < h.ops.length := by omega
              have HSn : Hid (Cd.hb C.ops.length (h.ops.take (j + 1)) = (Cd.hb C.ops.length (h.ops.take j) || decide ((C.ops.length : Int) ≤ x) || (h.ops.take j).any (fun y => y == x))) := by rw [Hid, htk2, Cd.hb_snoc]
              have HC2 := hid hcell2
              clear hcell2 htk2 hne2
              generalize hB3 : (B || Cd.hb C.ops.length (h.ops.take j)) = B3
              have HB3 := hid hB3
              clear hB3
              go_wp2
              obtain ⟨B4, HB4e⟩ : ∃ B4, Hid ((B3 || decide ((C.ops.length : Int) ≤ x)) = B4) := ⟨_, rfl⟩
              cases B3
              · by_cases hxl : (C.ops.length : Int) ≤ x
                · have HL4 : Hid (B4 = true) := by rw [Hid, ← HB4e.out]; simp [hxl]
                  go_quiet (fail)
                  go_wp2
                  have HBq : Hid (Below W.heap.size W (wr.drewN nq)) := ⟨HB2.out.os, HB2.out.tape, HB2.out.output, HB2.out.size, HB2.out.block⟩
                  generalize wr.drewN nq = wq at HBq
                  clear d1 y0
                  go_loopw [3, 7] (fun bv t wr => ∃ k2 : Nat, t = .int .i64 k2 ∧ bv = .bool (B4 || (h.ops.take k2).any (fun y => y == x)) ∧ k2 ≤ j ∧ Hid (Below W.heap.size W wr)) (fun _ t _ => j - (intOf t).toNat)
                  case atStart => exact ⟨0, rfl, by rw [HL4.out]; simp, Nat.zero_le _, HBq⟩
                  case round =>
                    obtain ⟨k2, rfl, rfl, hk2, HB4⟩ := hrel
                    by_cases hlt3 : k2 < j
                    · obtain ⟨y, hy, htk3, _, _⟩ := at_some (show k2 < h.ops.length by omega)
                      have z0 := kc (below_trans hbW HB4.out) (HC2.out k2 y hy)
                      have z1 := kc (below_trans hbW HB4.out) (HC2.out j x hx)
                      have hgl3 : (k2 : Int) < (j : Int) := by omega
                      have hgl4 : (k2 : Int) < h.ops.length := by omega
                      have HA3 : Hid ((h.ops.take (k2 + 1)).any (fun y => y == x) = ((h.ops.take k2).any (fun y => y == x) || (y == x))) := by rw [Hid, Cd.any_take htk3]
                      clear htk3
                      generalize hB5 : (B4 || (h.ops.take k2).any (fun y => y == x)) = B5
                      have HB5 := hid hB5
                      clear hB5
                      cases B5
                      · by_cases hyx : y = x
                        · have hq : (y == x) = true := by simpa using hyx
                          rw [hyx] at z0
                          go_wp2
                          go_quiet (fail)
                          go_wp2
                          go_roundw
                          case rel => exact ⟨k2 + 1, by simp, by rw [HA3.out, ← Bool.or_assoc, HB5.out, hyx]; simp, by omega, ⟨HB4.out.os, HB4.out.tape, HB4.out.output, HB4.out.size, HB4.out.block⟩⟩
                          case measure => simp [intOf]; omega
                        · have hq : (y == x) = false := by simpa using hyx
                          go_wp2
                          go_quiet (fail)
                          go_wp2
                          go_roundw
                          case rel => exact ⟨k2 + 1, by simp, by rw [HA3.out, ← Bool.or_assoc, HB5.out, hq]; simp, by omega, ⟨HB4.out.os, HB4.out.tape, HB4.out.output, HB4.out.size, HB4.out.block⟩⟩
                          case measure => simp [intOf]; omega
                      · go_wp2
                        go_quiet (fail)
                        go_wp2
                        go_roundw
                        case rel => exact ⟨k2 + 1, by simp, by rw [HA3.out, ← Bool.or_assoc, HB5.out]; simp, by omega, ⟨HB4.out.os, HB4.out.tape, HB4.out.output, HB4.out.size, HB4.out.block⟩⟩
                        case measure => simp [intOf]; omega
                    · have ek : k2 = j := by omega
                      subst ek
                      have hgl3 : ¬ (k2 : Int) < (k2 : Int) := by omega
                      go_wp2
                      go_roundw
                      case rel => exact ⟨k2 + 1, by simp, by rw [HSn.out, ← HB4e.out, ← HB3.out]; simp [Bool.or_assoc], by omega, HB4⟩
                      case measure => simp [intOf]; omega
                · have HL4 : Hid (B4 = false) := by rw [Hid, ← HB4e.out]; simp [hxl]
                  have hxl2 : x < (C.ops.length : Int) := by omega
                  go_quiet (fail)
                  go_wp2
                  have HBq : Hid (Below W.heap.size W (wr.drewN nq)) := ⟨HB2.out.os, HB2.out.tape, HB2.out.output, HB2.out.size, HB2.out.block⟩
                  generalize wr.drewN nq = wq at HBq
                  clear d1 y0
                  go_loopw [3, 7] (fun bv t wr => ∃ k2 : Nat, t = .int .i64 k2 ∧ bv = .bool (B4 || (h.ops.take k2).any (fun y => y == x)) ∧ k2 ≤ j ∧ Hid (Below W.heap.size W wr)) (fun _ t _ => j - (intOf t).toNat)
                  case atStart => exact ⟨0, rfl, by rw [HL4.out]; simp, Nat.zero_le _, HBq⟩
                  case round =>
                    obtain ⟨k2, rfl, rfl, hk2, HB4⟩ := hrel
                    by_cases hlt3 : k2 < j
                    · obtain ⟨y, hy, htk3, _, _⟩ := at_some (show k2 < h.ops.length by omega)
                      have z0 := kc (below_trans hbW HB4.out) (HC2.out k2 y hy)
                      have z1 := kc (below_trans hbW HB4.out) (HC2.out j x hx)
                      have hgl3 : (k2 : Int) < (j : Int) := by omega
                      have hgl4 : (k2 : Int) < h.ops.length := by omega
                      have HA3 : Hid ((h.ops.take (k2 + 1)).any (fun y => y == x) = ((h.ops.take k2).any (fun y => y == x) || (y == x))) := by rw [Hid, Cd.any_take htk3]
                      clear htk3
                      generalize hB5 : (B4 || (h.ops.take k2).any (fun y => y == x)) = B5
                      have HB5 := hid hB5
                      clear hB5
                      cases B5
                      · by_cases hyx : y = x
                        · have hq : (y == x) = true := by simpa using hyx
                          rw [hyx] at z0
                          go_wp2
                          go_quiet (fail)
                          go_wp2
                          go_roundw
                          case rel => exact ⟨k2 + 1, by simp, by rw [HA3.out, ← Bool.or_assoc, HB5.out, hyx]; simp, by omega, ⟨HB4.out.os, HB4.out.tape, HB4.out.output, HB4.out.size, HB4.out.block⟩⟩
                          case measure => simp [intOf]; omega
                        · have hq : (y == x) = false := by simpa using hyx
                          go_wp2
                          go_quiet (fail)
                          go_wp2
                          go_roundw
                          case rel => exact ⟨k2 + 1, by simp, by rw [HA3.out, ← Bool.or_assoc, HB5.out, hq]; simp, by omega, ⟨HB4.out.os, HB4.out.tape, HB4.out.output, HB4.out.size, HB4.out.block⟩⟩
                          case measure => simp [intOf]; omega
                      · go_wp2
                        go_quiet (fail)
                        go_wp2
                        go_roundw
                        case rel => exact ⟨k2 + 1, by simp, by rw [HA3.out, ← Bool.or_assoc, HB5.out]; simp, by omega, ⟨HB4.out.os, HB4.out.tape, HB4.out.output, HB4.out.size, HB4.out.block⟩⟩
                        case measure => simp [intOf]; omega
                    · have ek : k2 = j := by omega
                      subst ek
                      have hgl3 : ¬ (k2 : Int) < (k2 : Int) := by omega
                      go_wp2
                      go_roundw
                      case rel => exact ⟨k2 + 1, by simp, by rw [HSn.out, ← HB4e.out, ← HB3.out]; simp [Bool.or_assoc], by omega, HB4⟩
                      case measure => simp [intOf]; omega
              · have HL4 : Hid (B4 = true) := by rw [Hid, ← HB4e.out]; simp
                go_quiet (fail)
                go_wp2
                have HBq : Hid (Below W.heap.size W (wr.drewN nq)) := ⟨HB2.out.os, HB2.out.tape, HB2.out.output, HB2.out.size, HB2.out.block⟩
                generalize wr.drewN nq = wq at HBq
                clear d1 y0
                go_loopw [3, 7] (fun bv t wr => ∃ k2 : Nat, t = .int .i64 k2 ∧ bv = .bool (B4 || (h.ops.take k2).any (fun y => y == x)) ∧ k2 ≤ j ∧ Hid (Below W.heap.size W wr)) (fun _ t _ => j - (intOf t).toNat)
                case atStart => exact ⟨0, rfl, by rw [HL4.out]; simp, Nat.zero_le _, HBq⟩
                case round =>
                  obtain ⟨k2, rfl, rfl, hk2, HB4⟩ := hrel
                  by_cases hlt3 : k2 < j
                  · obtain ⟨y, hy, htk3, _, _⟩ := at_some (show k2 < h.ops.length by omega)
                    have z0 := kc (below_trans hbW HB4.out) (HC2.out k2 y hy)
                    have z1 := kc (below_trans hbW HB4.out) (HC2.out j x hx)
                    have hgl3 : (k2 : Int) < (j : Int) := by omega
                    have hgl4 : (k2 : Int) < h.ops.length := by omega
                    have HA3 : Hid ((h.ops.take (k2 + 1)).any (fun y => y == x) = ((h.ops.take k2).any (fun y => y == x) || (y == x))) := by rw [Hid, Cd.any_take htk3]
                    clear htk3
                    generalize hB5 : (B4 || (h.ops.take k2).any (fun y => y == x)) = B5
                    have HB5 := hid hB5
                    clear hB5
                    cases B5
                    · by_cases hyx : y = x
                      · have hq : (y == x) = true := by simpa using hyx
                        rw [hyx] at z0
                        go_wp2
                        go_quiet (fail)
                        go_wp2
                        go_roundw
                        case rel => exact ⟨k2 + 1, by simp, by rw [HA3.out, ← Bool.or_assoc, HB5.out, hyx]; simp, by omega, ⟨HB4.out.os, HB4.out.tape, HB4.out.output, HB4.out.size, HB4.out.block⟩⟩
                        case measure => simp [intOf]; omega
                      · have hq : (y == x) = false := by simpa using hyx
                        go_wp2
                        go_quiet (fail)
                        go_wp2
                        go_roundw
                        case rel => exact ⟨k2 + 1, by simp, by rw [HA3.out, ← Bool.or_assoc, HB5.out, hq]; simp, by omega, ⟨HB4.out.os, HB4.out.tape, HB4.out.output, HB4.out.size, HB4.out.block⟩⟩
                        case measure => simp [intOf]; omega
                    · go_wp2
                      go_quiet (fail)
                      go_wp2
                      go_roundw
                      case rel => exact ⟨k2 + 1, by simp, by rw [HA3.out, ← Bool.or_assoc, HB5.out]; simp, by omega, ⟨HB4.out.os, HB4.out.tape, HB4.out.output, HB4.out.size, HB4.out.block⟩⟩
                      case measure => simp [intOf]; omega
                  · have ek : k2 = j := by omega
                    subst ek
                    have hgl3 : ¬ (k2 : Int) < (k2 : Int) := by omega
                    go_wp2
                    go_roundw
                    case rel => exact ⟨k2 + 1, by simp, by rw [HSn.out, ← HB4e.out, ← HB3.out]; simp [Bool.or_assoc], by omega, HB4⟩
                    case measure => simp [intOf]; omega
            · have ej : j = h.ops.length := by omega
              subst ej
              have hgl2 : ¬ (h.ops.length : Int) < h.ops.length := by omega
              go_wp2
              go_roundw
              case rel => exact ⟨i + 1, by simp, by rw [HAn.out, ← HBB.out, List.take_length]; simp [Bool.or_assoc], by omega, HB2⟩
              case measure => simp [intOf]; omega
        · have ei : i = C.hans.length := by omega
          subst ei
          have hgl : ¬ (C.hans.length : Int) < C.hans.length := by omega
          rw [List.take_length]
          have HCk := hid (Cd.chk_bad C)
          generalize (Cd.bad0 C || C.hans.any (Cd.hanBad C)) = BB at HCk
          cases BB
          · simp only [Bool.false_eq_true, if_false] at HCk
            go_wp2
            have HF0 : Hid (Cd.chk C = Cd.funsF C (C.funs.drop 0) (decide (0 = 0)) 0) := by rw [Hid, List.drop_zero]; exact HCk.out
            clear d0 d1 d2 d3 HCk
            go_loopw [8, 9] (fun av t wr => ∃ m at_ : Nat, t = .int .i64 m ∧ av = .int .i64 at_ ∧ m ≤ C.funs.length ∧ at_ ≤ m * 65535 ∧ Hid (Below W.heap.size W wr) ∧ Hid (Cd.chk C = Cd.funsF C (C.funs.drop m) (decide (m = 0)) at_)) (fun _ t _ => C.funs.length - (intOf t).toNat)
            case atStart => exact ⟨0, 0, rfl, rfl, Nat.zero_le _, Nat.zero_le _, HB, HF0⟩
            case round =>
              obtain ⟨m, at_, rfl, rfl, hm, hat, HB, HF⟩ := hrel
              have d0 := kc HB.out c0
              have d1 := kc HB.out c1
              have d2 := kc HB.out c2
              have d3 := kc HB.out c3
              by_cases hlt : m < C.funs.length
              · obtain ⟨f, hf, htk, hmem, hne⟩ := at_some hlt
                obtain ⟨g, k, rfl, hcell⟩ := HX3.out hne
                obtain ⟨q0, q1, u, q2, hI⟩ := hcell m f hf
                have e0 := kc (below_trans hbW HB.out) q0
                have e1 := kc (below_trans hbW HB.out) q1
                have e2 := kc (below_trans hbW HB.out) q2
                have hil := hS.ins f hmem
                have HDr : Hid (C.funs.drop m = f :: C.funs.drop (m + 1)) := Cd.drop_cons hf
                have hfun := fun (W9 : World) (h9 : Below W.heap.size W W9) => fun_any C f _ _ _ u (decide (m = 0)) W9 (HM.out.keep (below_trans hbW h9)) (hI.keep (below_trans hbW h9)) hS hmem
                unfold codeV2 funV FunPost at hfun
                obtain ⟨ai, ci, rfl, hci, _⟩ := hI
                have hgl : (m : Int) < C.funs.length := by omega
                have hz : ((m : Int) == 0) = decide (m = 0) := by rw [Bool.eq_iff_iff]; simp
                have HBd : Hid (Below W.heap.size W wr.drew) := ⟨HB.out.os, HB.out.tape, HB.out.output, HB.out.size, HB.out.block⟩
                clear hcell htk hne
                generalize hZ : decide (m = 0) = zz at hfun hz
                have HZ := hid hZ
                clear hZ
                generalize hfv : Cd.funF C f zz = fv at hfun
                have HFV := hid hfv
                clear hfv
                obtain ⟨fe, fi⟩ := fv
                dsimp only at hfun
                have hfi : fi ≤ 65535 := by
                  have := Cd.funF_le C f zz
                  rw [HFV.out] at this
                  dsimp only at this
                  omega
                have HFn : Hid (Cd.chk C = if fe = 0 then Cd.funsF C (C.funs.drop (m + 1)) false (at_ + f.ins.length) else (fe, at_ + fi)) := by
                  rw [Hid, HF.out, HDr.out, Cd.funsF, HZ.out, HFV.out]
                by_cases hfe : fe = 0
                · subst hfe
                  simp only [if_true] at HFn
                  go_upto_region 20 with fail
                  refine wp_region_held_drew (S := (fun w' => w'.cell? ⟨w.heap.size, 0, none⟩ = some (.string ⟨C.shape.toArray⟩) ∧ w'.cell? ⟨w.heap.size, 1, none⟩ = some (.slice ao C.ops.length co) ∧ w'.cell? ⟨w.heap.size, 2, none⟩ = some (.slice ah C.hans.length ch) ∧ w'.cell? ⟨w.heap.size, 3, none⟩ = some (.slice (some ⟨g, k, none⟩) C.funs.length cf) ∧ w'.cell? ⟨g, k + m * 3, none⟩ = some (.int .i64 f.free) ∧ w'.cell? ⟨g, k + m * 3 + 1, none⟩ = some (.int .i64 f.slots) ∧ w'.cell? ⟨g, k + m * 3 + 2, none⟩ = some (.slice ai f.ins.length ci))) (by kernel_rfl) (by first | trivial | ((try dsimp only); go_keep)) (fun hHeld => ?_)
                  refine wpAnyH_take (i := 0) (v := ?vvc1) rfl (by kernel_rfl) (by kernel_rfl) (by kernel_rfl) (fun _ _ _ h => h) (Or.inl ⟨by rfl, ?yyc1⟩) (by assumption) ?rrc1
                  case yyc1 => (intro w' hSw; (try dsimp only at hSw); go_simp; (try with_reducible rfl))
                  try simp only [Act.put, List.setIfInBounds_toArray, List.set_cons_zero, List.set_cons_succ]
                  refine wpAnyH_take (i := 1) (v := ?vvc2) rfl (by kernel_rfl) (by kernel_rfl) (by kernel_rfl) (fun _ _ _ h => h) (Or.inl ⟨by rfl, ?yyc2⟩) (by assumption) ?rrc2
                  case yyc2 => (intro w' hSw; (try dsimp only at hSw); go_simp; (try with_reducible rfl))
                  try simp only [Act.put, List.setIfInBounds_toArray, List.set_cons_zero, List.set_cons_succ]
                  refine wpAnyH_take (i := 2) (v := ?vvc3) rfl (by kernel_rfl) (by kernel_rfl) (by kernel_rfl) (fun _ _ _ h => h) (Or.inl ⟨by rfl, ?yyc3⟩) (by assumption) ?rrc3
                  case yyc3 => (intro w' hSw; (try dsimp only at hSw); go_simp; (try with_reducible rfl))
                  try simp only [Act.put, List.setIfInBounds_toArray, List.set_cons_zero, List.set_cons_succ]
                  refine wpAnyH_take (i := 3) (v := ?vvc4) rfl (by kernel_rfl) (by kernel_rfl) (by kernel_rfl) (fun _ _ _ h => h) (Or.inl ⟨by rfl, ?yyc4⟩) (by assumption) ?rrc4
                  case yyc4 => (intro w' hSw; (try dsimp only at hSw); go_simp; (try with_reducible rfl))
                  try simp only [Act.put, List.setIfInBounds_toArray, List.set_cons_zero, List.set_cons_succ]
                  refine wpAnyH_take (i := 4) (v := ?vvc5) rfl (by kernel_rfl) (by kernel_rfl) (by kernel_rfl) (fun _ _ _ h => h) (Or.inl ⟨by rfl, ?yyc5⟩) (by assumption) ?rrc5
                  case yyc5 => (intro w' hSw; (try dsimp only at hSw); go_simp; (try with_reducible rfl))
                  try simp only [Act.put, List.setIfInBounds_toArray, List.set_cons_zero, List.set_cons_succ]
                  refine wpAnyH_take (i := 5) (v := ?vvc6) rfl (by kernel_rfl) (by kernel_rfl) (by kernel_rfl) (fun _ _ _ h => h) (Or.inl ⟨by rfl, ?yyc6⟩) (by assumption) ?rrc6
                  case yyc6 => (intro w' hSw; (try dsimp only at hSw); go_simp; (try with_reducible rfl))
                  try simp only [Act.put, List.setIfInBounds_toArray, List.set_cons_zero, List.set_cons_succ]
                  refine wpAnyH_take (i := 6) (v := ?vvc7) rfl (by kernel_rfl) (by kernel_rfl) (by kernel_rfl) (fun _ _ _ h => h) (Or.inl ⟨by rfl, ?yyc7⟩) (by assumption) ?rrc7
                  case yyc7 => (intro w' hSw; (try dsimp only at hSw); go_simp; (try with_reducible rfl))
                  try simp only [Act.put, List.setIfInBounds_toArray, List.set_cons_zero, List.set_cons_succ]
                  refine wpAnyH_take (i := 7) (v := ?vvc8) rfl (by kernel_rfl) (by kernel_rfl) (by kernel_rfl) (fun _ _ _ h => h) (Or.inl ⟨by rfl, ?yyc8⟩) (by assumption) ?rrc8
                  case yyc8 => (intro w' hSw; (try dsimp only at hSw); go_simp; (try with_reducible rfl))
                  try simp only [Act.put, List.setIfInBounds_toArray, List.set_cons_zero, List.set_cons_succ]
                  refine wpAnyH_ready (rs := [8]) (by kernel_rfl) (by simp) (AllReadyH.cons rfl (fun K hK => ?_) AllReadyH.nil)
                  go_simp
                  refine (hfun _ HBd.out).mono ?_
                  rintro en w5 ⟨rfl, hb5⟩
                  have HB5 := hid (below_trans HBd.out hb5)
                  clear hb5 d0 d1 d2 d3 e0 e1 e2
                  have d0 := kc HB5.out c0
                  have d1 := kc HB5.out c1
                  have d2 := kc HB5.out c2
                  have d3 := kc HB5.out c3
                  have e0 := kc (below_trans hbW HB5.out) q0
                  have e1 := kc (below_trans hbW HB5.out) q1
                  have e2 := kc (below_trans hbW HB5.out) q2
                  dsimp only
                  clear hHeld
                  refine hK.out _ _ ?hs (fun hHeld => ?_)
                  case hs => (first | trivial | ((try dsimp only); go_keep) | ((try dsimp only); simp [*, World.cell?_alloc_some, World.cell?_setCell_far, World.cell?_setCell_other]))
                  clear hK K
                  try simp only [Act.put, List.setIfInBounds_toArray, List.set_cons_zero, List.set_cons_succ]
                  refine wpAnyH_take (i := 9) (v := ?vvc9) rfl (by kernel_rfl) (by kernel_rfl) (by kernel_rfl) (fun _ _ _ h => h) (Or.inl ⟨by rfl, ?yyc9⟩) (by assumption) ?rrc9
                  case yyc9 => (intro w' hSw; (try dsimp only at hSw); go_simp; (try with_reducible rfl))
                  try simp only [Act.put, List.setIfInBounds_toArray, List.set_cons_zero, List.set_cons_succ]
                  refine wpAnyH_take (i := 10) (v := ?vvc10) rfl (by kernel_rfl) (by kernel_rfl) (by kernel_rfl) (fun _ _ _ h => h) (Or.inl ⟨by rfl, ?yyc10⟩) (by assumption) ?rrc10
                  case yyc10 => (intro w' hSw; (try dsimp only at hSw); go_simp; (try with_reducible rfl))
                  try simp only [Act.put, List.setIfInBounds_toArray, List.set_cons_zero, List.set_cons_succ]
                  refine wpAnyH_take (i := 11) (v := ?vvc11) rfl (by kernel_rfl) (by kernel_rfl) (by kernel_rfl) (fun _ _ _ h => h) (Or.inl ⟨by rfl, ?yyc11⟩) (by assumption) ?rrc11
                  case yyc11 => (intro w' hSw; (try dsimp only at hSw); go_simp; (try with_reducible rfl))
                  try simp only [Act.put, List.setIfInBounds_toArray, List.set_cons_zero, List.set_cons_succ]
                  refine wpAnyH_take (i := 12) (v := ?vvc12) rfl (by kernel_rfl) (by kernel_rfl) (by kernel_rfl) (fun _ _ _ h => h) (Or.inl ⟨by rfl, ?yyc12⟩) (by assumption) ?rrc12
                  case yyc12 => (intro w' hSw; (try dsimp only at hSw); go_simp; (try with_reducible rfl))
                  try simp only [Act.put, List.setIfInBounds_toArray, List.set_cons_zero, List.set_cons_succ]
                  refine wpAnyH_take (i := 13) (v := ?vvc13) rfl (by kernel_rfl) (by kernel_rfl) (by kernel_rfl) (fun _ _ _ h => h) (Or.inl ⟨by rfl, ?yyc13⟩) (by assumption) ?rrc13
                  case yyc13 => (intro w' hSw; (try dsimp only at hSw); go_simp; (try with_reducible rfl))
                  try simp only [Act.put, List.setIfInBounds_toArray, List.set_cons_zero, List.set_cons_succ]
                  refine wpAnyH_done (by kernel_rfl) ?_ _
                  clear hHeld
                  clear hfun
                  have hwr : IntKind.i64.wrap ((at_ : Int) + f.ins.length) = at_ + f.ins.length := by rw [IntKind.wrap_i64]; omega
                  go_wp2
                  go_roundw
                  case rel => exact ⟨m + 1, at_ + f.ins.length, by simp, by simp, by omega, by omega, HB5, by rw [Hid, HFn.out, show decide (m + 1 = 0) = false by simp]⟩
                  case measure => simp [intOf]; omega
                · simp only [hfe, if_false] at HFn
                  go_upto_region 20 with fail
                  refine wp_region_held_drew (S := (fun w' => w'.cell? ⟨w.heap.size, 0, none⟩ = some (.string ⟨C.shape.toArray⟩) ∧ w'.cell? ⟨w.heap.size, 1, none⟩ = some (.slice ao C.ops.length co) ∧ w'.cell? ⟨w.heap.size, 2, none⟩ = some (.slice ah C.hans.length ch) ∧ w'.cell? ⟨w.heap.size, 3, none⟩ = some (.slice (some ⟨g, k, none⟩) C.funs.length cf) ∧ w'.cell? ⟨g, k + m * 3, none⟩ = some (.int .i64 f.free) ∧ w'.cell? ⟨g, k + m * 3 + 1, none⟩ = some (.int .i64 f.slots) ∧ w'.cell? ⟨g, k + m * 3 + 2, none⟩ = some (.slice ai f.ins.length ci))) (by kernel_rfl) (by first | trivial | ((try dsimp only); go_keep)) (fun hHeld => ?_)
                  refine wpAnyH_take (i := 0) (v := ?vve14) rfl (by kernel_rfl) (by kernel_rfl) (by kernel_rfl) (fun _ _ _ h => h) (Or.inl ⟨by rfl, ?yye14⟩) (by assumption) ?rre14
                  case yye14 => (intro w' hSw; (try dsimp only at hSw); go_simp; (try with_reducible rfl))
                  try simp only [Act.put, List.setIfInBounds_toArray, List.set_cons_zero, List.set_cons_succ]
                  refine wpAnyH_take (i := 1) (v := ?vve15) rfl (by kernel_rfl) (by kernel_rfl) (by kernel_rfl) (fun _ _ _ h => h) (Or.inl ⟨by rfl, ?yye15⟩) (by assumption) ?rre15
                  case yye15 => (intro w' hSw; (try dsimp only at hSw); go_simp; (try with_reducible rfl))
                  try simp only [Act.put, List.setIfInBounds_toArray, List.set_cons_zero, List.set_cons_succ]
                  refine wpAnyH_take (i := 2) (v := ?vve16) rfl (by kernel_rfl) (by kernel_rfl) (by kernel_rfl) (fun _ _ _ h => h) (Or.inl ⟨by rfl, ?yye16⟩) (by assumption) ?rre16
                  case yye16 => (intro w' hSw; (try dsimp only at hSw); go_simp; (try with_reducible rfl))
                  try simp only [Act.put, List.setIfInBounds_toArray, List.set_cons_zero, List.set_cons_succ]
                  refine wpAnyH_take (i := 3) (v := ?vve17) rfl (by kernel_rfl) (by kernel_rfl) (by kernel_rfl) (fun _ _ _ h => h) (Or.inl ⟨by rfl, ?yye17⟩) (by assumption) ?rre17
                  case yye17 => (intro w' hSw; (try dsimp only at hSw); go_simp; (try with_reducible rfl))
                  try simp only [Act.put, List.setIfInBounds_toArray, List.set_cons_zero, List.set_cons_succ]
                  refine wpAnyH_take (i := 4) (v := ?vve18) rfl (by kernel_rfl) (by kernel_rfl) (by kernel_rfl) (fun _ _ _ h => h) (Or.inl ⟨by rfl, ?yye18⟩) (by assumption) ?rre18
                  case yye18 => (intro w' hSw; (try dsimp only at hSw); go_simp; (try with_reducible rfl))
                  try simp only [Act.put, List.setIfInBounds_toArray, List.set_cons_zero, List.set_cons_succ]
                  refine wpAnyH_take (i := 5) (v := ?vve19) rfl (by kernel_rfl) (by kernel_rfl) (by kernel_rfl) (fun _ _ _ h => h) (Or.inl ⟨by rfl, ?yye19⟩) (by assumption) ?rre19
                  case yye19 => (intro w' hSw; (try dsimp only at hSw); go_simp; (try with_reducible rfl))
                  try simp only [Act.put, List.setIfInBounds_toArray, List.set_cons_zero, List.set_cons_succ]
                  refine wpAnyH_take (i := 6) (v := ?vve20) rfl (by kernel_rfl) (by kernel_rfl) (by kernel_rfl) (fun _ _ _ h => h) (Or.inl ⟨by rfl, ?yye20⟩) (by assumption) ?rre20
                  case yye20 => (intro w' hSw; (try dsimp only at hSw); go_simp; (try with_reducible rfl))
                  try simp only [Act.put, List.setIfInBounds_toArray, List.set_cons_zero, List.set_cons_succ]
                  refine wpAnyH_take (i := 7) (v := ?vve21) rfl (by kernel_rfl) (by kernel_rfl) (by kernel_rfl) (fun _ _ _ h => h) (Or.inl ⟨by rfl, ?yye21⟩) (by assumption) ?rre21
                  case yye21 => (intro w' hSw; (try dsimp only at hSw); go_simp; (try with_reducible rfl))
                  try simp only [Act.put, List.setIfInBounds_toArray, List.set_cons_zero, List.set_cons_succ]
                  refine wpAnyH_ready (rs := [8]) (by kernel_rfl) (by simp) (AllReadyH.cons rfl (fun K hK => ?_) AllReadyH.nil)
                  go_simp
                  refine (hfun _ HBd.out).mono ?_
                  rintro en w5 ⟨rfl, hb5⟩
                  have HB5 := hid (below_trans HBd.out hb5)
                  clear hb5 d0 d1 d2 d3 e0 e1 e2
                  have d0 := kc HB5.out c0
                  have d1 := kc HB5.out c1
                  have d2 := kc HB5.out c2
                  have d3 := kc HB5.out c3
                  have e0 := kc (below_trans hbW HB5.out) q0
                  have e1 := kc (below_trans hbW HB5.out) q1
                  have e2 := kc (below_trans hbW HB5.out) q2
                  dsimp only
                  clear hHeld
                  refine hK.out _ _ ?hs (fun hHeld => ?_)
                  case hs => (first | trivial | ((try dsimp only); go_keep) | ((try dsimp only); simp [*, World.cell?_alloc_some, World.cell?_setCell_far, World.cell?_setCell_other]))
                  clear hK K
                  try simp only [Act.put, List.setIfInBounds_toArray, List.set_cons_zero, List.set_cons_succ]
                  refine wpAnyH_take (i := 9) (v := ?vve22) rfl (by kernel_rfl) (by kernel_rfl) (by kernel_rfl) (fun _ _ _ h => h) (Or.inl ⟨by rfl, ?yye22⟩) (by assumption) ?rre22
                  case yye22 => (intro w' hSw; (try dsimp only at hSw); go_simp; (try with_reducible rfl))
                  try simp only [Act.put, List.setIfInBounds_toArray, List.set_cons_zero, List.set_cons_succ]
                  refine wpAnyH_take (i := 10) (v := ?vve23) rfl (by kernel_rfl) (by kernel_rfl) (by kernel_rfl) (fun _ _ _ h => h) (Or.inl ⟨by rfl, ?yye23⟩) (by assumption) ?rre23
                  case yye23 => (intro w' hSw; (try dsimp only at hSw); go_simp; (try with_reducible rfl))
                  try simp only [Act.put, List.setIfInBounds_toArray, List.set_cons_zero, List.set_cons_succ]
                  refine wpAnyH_take (i := 11) (v := ?vve24) rfl (by kernel_rfl) (by kernel_rfl) (by kernel_rfl) (fun _ _ _ h => h) (Or.inl ⟨by rfl, ?yye24⟩) (by assumption) ?rre24
                  case yye24 => (intro w' hSw; (try dsimp only at hSw); go_simp; (try with_reducible rfl))
                  try simp only [Act.put, List.setIfInBounds_toArray, List.set_cons_zero, List.set_cons_succ]
                  refine wpAnyH_take (i := 12) (v := ?vve25) rfl (by kernel_rfl) (by kernel_rfl) (by kernel_rfl) (fun _ _ _ h => h) (Or.inl ⟨by rfl, ?yye25⟩) (by assumption) ?rre25
                  case yye25 => (intro w' hSw; (try dsimp only at hSw); go_simp; (try with_reducible rfl))
                  try simp only [Act.put, List.setIfInBounds_toArray, List.set_cons_zero, List.set_cons_succ]
                  refine wpAnyH_take (i := 13) (v := ?vve26) rfl (by kernel_rfl) (by kernel_rfl) (by kernel_rfl) (fun _ _ _ h => h) (Or.inl ⟨by rfl, ?yye26⟩) (by assumption) ?rre26
                  case yye26 => (intro w' hSw; (try dsimp only at hSw); go_simp; (try with_reducible rfl))
                  try simp only [Act.put, List.setIfInBounds_toArray, List.set_cons_zero, List.set_cons_succ]
                  refine wpAnyH_done (by kernel_rfl) ?_ _
                  clear hHeld
                  clear hfun
                  have hwr : IntKind.i64.wrap ((at_ : Int) + fi) = at_ + fi := by rw [IntKind.wrap_i64]; omega
                  have hbk : w5.heap[w.heap.size + 1]? = some (.cells #[.int .i64 0, .int .i64 0] 25 (0, 0)) := (HB5.out.block _ (Array.getElem?_eq_some_iff.1 cF).1).trans cF
                  obtain ⟨x0, x1, x2, x3, x4⟩ := fault_box hbk
                  have X4 := hid x4
                  clear x4
                  go_wp2
                  obtain ⟨y0, y1, _⟩ := fault_box (X4.out (.int .i64 fe) (.int .i64 ((at_ : Int) + fi)))
                  exact chk_fin rfl rfl y0 (by rw [Int.natCast_add]; exact y1) HFn.out (below_set2 (below_trans hbW HB5.out) (Nat.le_succ _))
              · have em : m = C.funs.length := by omega
                subst em
                have hgl : ¬ (C.funs.length : Int) < C.funs.length := by omega
                have hbk : wr.heap[w.heap.size + 1]? = some (.cells #[.int .i64 0, .int .i64 0] 25 (0, 0)) := (HB.out.block _ (Array.getElem?_eq_some_iff.1 cF).1).trans cF
                obtain ⟨x0, x1, x2, x3, x4⟩ := fault_box hbk
                have X4 := hid x4
                clear x4
                go_wp2
                obtain ⟨y0, y1, _⟩ := fault_box (X4.out (.int .i64 0) (.int .i64 0))
                refine chk_fin rfl rfl y0 y1 ?_ (below_set2 (below_trans hbW HB.out) (Nat.le_succ _))
                rw [HF.out, List.drop_length]
                rfl
          · simp only [if_true] at HCk
            have hbk : wr.heap[w.heap.size + 1]? = some (.cells #[.int .i64 0, .int .i64 0] 25 (0, 0)) := (HB.out.block _ (Array.getElem?_eq_some_iff.1 cF).1).trans cF
            obtain ⟨x0, x1, x2, x3, x4⟩ := fault_box hbk
            have X4 := hid x4
            clear x4
            go_wp2
            obtain ⟨y0, y1, _⟩ := fault_box (X4.out (.int .i64 14) (.int .i64 0))
            exact chk_fin rfl rfl y0 y1 HCk.out (below_set2 (below_trans hbW HB.out) (Nat.le_succ _))
    | _ => exact h.elim
end Go.Proofs.YtpjbfdpblgjmfaaGreatDoor
