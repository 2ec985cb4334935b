/-
  All that is told, with what its numbers stand for.
  What variables stand for, in memory; what is given for them.
  Maps from numbers to any values in memory.
-/
import Derived.Test.YtcogpcalghfghaaMMa
import Derived.Test.YtcogpcalghfghaaMVx
import Derived.Test.YtcogpcalghfghaaWa
set_option linter.unusedVariables false
set_option linter.unusedSimpArgs false
namespace Go.Proofs.Ytcogpcalghfghaa
namespace Un
open Answers (ToldAll)
open Gr (Nms numOf rowOf)
theorem later_told {G : Gr} (hG : G.OK) {val : Nat → Ty.P} {rw : Nat → RV} (h : Mod G val rw) : ∀ (l : List Nat) (N : Nms) (out : List Ty.P), (∀ j ∈ l, j < G.n ∧ (val j).ok ∧ (val j).parts ≤ 300) → N.t.length + N.r.length + 300 * l.length ≤ 1000000000 → ToldAll G l N out →
    ∃ M, Later N M ∧ out.map (app (tyOf val M) (rvN rw M)) = l.map val ∧ ∀ t ∈ out, t.ok ∧ t.parts ≤ 300 := by
  intro l
  induction l with
  | nil => intro N out _ _ ht; rw [show out = [] from ht]; exact ⟨N, Later.refl N, rfl, fun t h => by cases h⟩
  | cons j l ih =>
    rintro N out hj hn ⟨k, t, N', o, h1, h2, rfl⟩
    obtain ⟨j1, j2, j3⟩ := hj j (by simp)
    obtain ⟨a1, a2, a3⟩ := told_mod hG h k j N N' t j1 h1
    have hp : t.parts ≤ 300 ∧ N'.t.length + N'.r.length ≤ N.t.length + N.r.length + t.parts := by
      refine ⟨?_, Gr.told_len G _ _ _ _ _ h1⟩
      obtain ⟨s, hs, hle⟩ := mod_parts hG h _ j j1 (Nat.le_refl _)
      have := (Gr.told_parts hG j1 h1).one hs
      omega
    simp only [List.length_cons] at hn
    obtain ⟨M, b1, b2, b3⟩ := ih N' o (fun x hx => hj x (by simp [hx])) (by omega) h2
    refine ⟨M, a1.trans b1, by rw [List.map_cons, List.map_cons, a2 M b1, b2], fun x hx => ?_⟩
    rcases List.mem_cons.1 hx with rfl | hx
    · exact ⟨a3 j2 (by omega) (by omega), hp.1⟩
    · exact b3 x hx
end Un
end Go.Proofs.Ytcogpcalghfghaa

namespace Go.Proofs.Ytcogpcalghfghaa
open Go.RowKit
open Un (Nm ins joinB Srt RV rowW rvOf app)

theorem Rdd.carry {w w' : World} (hc : Ch (fun _ => False) w w') : ∀ {n : Nat} {os az : Value}, Rdd w n os az → Rdd w' n os az := by
  intro n
  induction n with
  | zero => intro os az h; exact h
  | succ n ih =>
    rintro os az ⟨⟨o, h1, h2⟩, a, l, c, e, h3, h4, h5⟩
    refine ⟨⟨o, h1.carry (fun k hk => hc.same k hk (fun h => h)), h2⟩, a, l, c, e, h3, h4, fun h0 => ?_⟩
    obtain ⟨g, q, e2, h6⟩ := h5 h0
    refine ⟨g, q, e2, fun i hi => ?_⟩
    obtain ⟨k, m, r, os', az', h7, h8⟩ := h6 i hi
    exact ⟨k, m, r, os', az', h7.of_heap (hc.same g h7.lt (fun h => h)), ih h8⟩
theorem kid_lt (t : Ty.P) : ∀ x ∈ kidsT t, x.parts + t.ops.length < t.parts := by
  have p := fun x : Ty.P => x.parts_pos
  cases t with
  | list a => intro x hx; obtain rfl := List.mem_singleton.1 hx; simp [Ty.P.parts, Ty.P.ops]
  | pair a b =>
    intro x hx
    have := p a
    have := p b
    simp only [kidsT, List.mem_cons, List.not_mem_nil, or_false] at hx
    rcases hx with rfl | rfl <;> (simp only [Ty.P.parts, Ty.P.ops, List.length_nil]; omega)
  | fn a b o r =>
    intro x hx
    have := p a
    have := p b
    simp only [kidsT, List.mem_cons, List.not_mem_nil, or_false] at hx
    rcases hx with rfl | rfl <;> (simp only [Ty.P.parts, Ty.P.ops]; omega)
  | _ => intro x hx; cases hx
/-- What is a type can be read. -/
theorem IsT.rdd {w : World} : ∀ {n : Nat} {t : Ty.P} {os az : Value}, IsT w t os az → t.parts ≤ n → t.parts ≤ 9223372036854775807 → Rdd w n os az := by
  intro n
  induction n with
  | zero => intro t os az _ h; have := t.parts_pos; omega
  | succ n ih =>
    intro t os az h hn h63
    have hop := ops_parts t
    have h2 := kids_two t
    obtain ⟨g1, a, c, rfl, g2⟩ := h.gen
    refine ⟨⟨t.ops, g1, by omega⟩, a, _, c, rfl, ?_, by omega, fun h0 => ?_⟩
    · cases t with
      | list x => obtain ⟨_, _, _, _, _, _, e, h, _⟩ := h; simp only [Value.slice.injEq] at e; rw [e.2.2]; exact h
      | pair x y => obtain ⟨_, _, _, _, _, _, _, _, e, h, _⟩ := h; simp only [Value.slice.injEq] at e; rw [e.2.2]; exact h
      | fn x y l r => obtain ⟨_, _, _, _, _, _, _, _, e, h, _⟩ := h; simp only [Value.slice.injEq] at e; rw [e.2.2]; exact h
      | _ => exact Nat.zero_le _
    · obtain ⟨g, q, os', az', e, _⟩ := g2 0 _ (List.getElem?_eq_getElem (by omega))
      refine ⟨g, q, e, fun i hi => ?_⟩
      obtain ⟨g', q', os', az', e', h5, h6⟩ := g2 i _ (List.getElem?_eq_getElem hi)
      rw [e] at e'
      simp only [Option.some.injEq, Addr.mk.injEq, and_true] at e'
      obtain ⟨rfl, rfl⟩ := e'
      have := kid_lt t _ (List.getElem_mem hi)
      exact ⟨_, _, _, os', az', h5, ih h6 (by omega) (by omega)⟩
/-- What can be read in whole can be read to any depth. -/
theorem Rdd.rdb {w : World} : ∀ {n : Nat} {os az : Value}, Rdd w n os az → ∀ j, Rdb w j os az := by
  intro n
  induction n with
  | zero => intro os az h; exact h.elim
  | succ n ih =>
    rintro os az ⟨⟨o, h1, _⟩, a, l, c, e, h3, _, h5⟩ j
    cases j with
    | zero => trivial
    | succ j =>
      refine ⟨⟨o, h1⟩, a, l, c, e, h3, fun h0 => ?_⟩
      obtain ⟨g, q, e2, h6⟩ := h5 h0
      refine ⟨g, q, e2, fun i hi => ?_⟩
      obtain ⟨k, m, r, os', az', h7, h8⟩ := h6 i hi
      exact ⟨k, m, r, os', az', h7, ih h8 j⟩
theorem Rdd.up {w : World} : ∀ {n m : Nat} {os az : Value}, Rdd w n os az → n ≤ m → Rdd w m os az := by
  intro n
  induction n with
  | zero => intro m os az h; exact h.elim
  | succ n ih =>
    rintro m os az ⟨h1, a, l, c, e, h3, h4, h5⟩ hm
    obtain ⟨m, rfl⟩ : ∃ i, m = i + 1 := ⟨m - 1, by omega⟩
    refine ⟨h1, a, l, c, e, h3, h4, fun h0 => ?_⟩
    obtain ⟨g, q, e2, h6⟩ := h5 h0
    refine ⟨g, q, e2, fun i hi => ?_⟩
    obtain ⟨k, m', r, os', az', h7, h8⟩ := h6 i hi
    exact ⟨k, m', r, os', az', h7, ih h8 (by omega)⟩
/-- What cells say later they said before. -/
theorem FT.back {w w' : World} (hc : Ch (fun _ => False) w w') {n : Nat} {k m r : Int} {os az : Value} {t : Ty.P} (hr : Rdd w n os az) (h : FT w' k m r os az t) : FT w k m r os az t := by
  obtain ⟨h1, h2, h3, h4⟩ := h
  exact ⟨h1, h2, h3, isT_back hc (Nat.le_refl _) (hr.rdb _) h4⟩
theorem FT.fwd {w w' : World} (hc : Ch (fun _ => False) w w') {k m r : Int} {os az : Value} {t : Ty.P} (h : FT w k m r os az t) : FT w' k m r os az t := by
  obtain ⟨h1, h2, h3, h4⟩ := h
  exact ⟨h1, h2, h3, IsT.carry (fun k hk => hc.same k hk (fun h => h)) h4⟩

/-- One of the given. -/
structure Gv where
  n : Int
  t : Raw
  row : Int
  ops : Value
  more : Int
  nm : List Nm
/-- Its cells. -/
def GvC (w : World) (g o : Nat) (z : Gv) : Prop :=
  w.cell? ⟨g, o, none⟩ = some (.int .i64 z.n) ∧ ElR w g (o + 1) z.t ∧ w.cell? ⟨g, o + 6, none⟩ = some (.int .i64 z.row) ∧ w.cell? ⟨g, o + 7, none⟩ = some z.ops ∧ w.cell? ⟨g, o + 8, none⟩ = some (.int .i64 z.more)
/-- All that is given. -/
structure GvM (w : World) (d g o n : Nat) (Z : Nat → Gv) : Prop where
  c : ∀ i, i < n → GvC w g (o + i * 9) (Z i)
  t : ∀ i, i < n → Rdd w d (Z i).t.os (Z i).t.az
  s : ∀ i, i < n → OpsV w (Z i).ops (Z i).nm
  nl : ∀ i, i < n → (Z i).nm.length ≤ 1048576
  len : n ≤ 1048576
theorem GvC.keep {w w' : World} {g o : Nat} {z : Gv} (h : GvC w g o z) (hc : Ch (fun _ => False) w w') : GvC w' g o z := by
  obtain ⟨h1, h2, h3, h4, h5⟩ := h
  exact ⟨cell_keeps hc h1, h2.of_heap (hc.same g h2.lt (fun h => h)), cell_keeps hc h3, cell_keeps hc h4, cell_keeps hc h5⟩
theorem GvM.keep {w w' : World} {d g o n : Nat} {Z : Nat → Gv} (h : GvM w d g o n Z) (hc : Ch (fun _ => False) w w') : GvM w' d g o n Z :=
  ⟨fun i hi => (h.c i hi).keep hc, fun i hi => (h.t i hi).carry hc, fun i hi => (h.s i hi).carry (fun k hk => hc.same k hk (fun h => h)), h.nl, h.len⟩
abbrev FTR (w : World) (x : Raw) (t : Ty.P) : Prop := FT w x.k x.n x.r x.os x.az t
/-- The first that is so. -/
def firstOf (p : Nat → Bool) (n : Nat) : Option Nat := (List.range n).find? p
theorem firstOf_none {p : Nat → Bool} {n : Nat} (h : ∀ i, i < n → p i = false) : firstOf p n = none := by
  unfold firstOf
  rw [List.find?_eq_none]
  intro i hi
  rw [h i (List.mem_range.1 hi)]
  simp
theorem firstOf_some {p : Nat → Bool} {n i : Nat} (hi : i < n) (hp : p i = true) (h : ∀ j, j < i → p j = false) : firstOf p n = some i := by
  unfold firstOf
  rw [List.find?_range_eq_some]
  exact ⟨hp, List.mem_range.2 hi, fun j hj => by rw [h j hj]; rfl⟩
/-- What type variables stand for. -/
def Sig (w : World) (n : Nat) (Z : Nat → Gv) (σ : Nat → Ty.P) : Prop := ∀ v : Nat, ((∀ j, j < n → (Z j).n ≠ (v : Int)) → σ v = .var v) ∧ ∀ i t, i < n → (Z i).n = (v : Int) → (∀ j, j < i → (Z j).n ≠ (v : Int)) → FTR w (Z i).t t → σ v = t
theorem sig_ex (w : World) (n : Nat) (Z : Nat → Gv) : ∃ σ, Sig w n Z σ := by
  have h : ∀ v : Nat, ∃ s : Ty.P, ((∀ j, j < n → (Z j).n ≠ (v : Int)) → s = .var v) ∧ ∀ i t, i < n → (Z i).n = (v : Int) → (∀ j, j < i → (Z j).n ≠ (v : Int)) → FTR w (Z i).t t → s = t := by
    intro v
    by_cases hx : ∃ i t, i < n ∧ (Z i).n = (v : Int) ∧ (∀ j, j < i → (Z j).n ≠ (v : Int)) ∧ FTR w (Z i).t t
    · obtain ⟨i, t, h1, h2, h3, h4⟩ := hx
      refine ⟨t, fun h => absurd h2 (h i h1), fun i' t' k1 k2 k3 k4 => ?_⟩
      rcases Nat.lt_trichotomy i i' with e | e | e
      · exact absurd h2 (k3 i e)
      · subst e; exact h4.one k4
      · exact absurd k2 (h3 i' e)
    · exact ⟨.var v, fun _ => rfl, fun i t k1 k2 k3 k4 => absurd ⟨i, t, k1, k2, k3, k4⟩ hx⟩
  exact ⟨fun v => Classical.choose (h v), fun v => Classical.choose_spec (h v)⟩
/-- What a row variable stands for. -/
def rho (n : Nat) (Z : Nat → Gv) (r : Nat) : RV :=
  match firstOf (fun i => decide ((Z i).row = (r : Int))) n with
  | none => ([], r)
  | some i => (joinB [] (Z i).nm, (Z i).more.toNat)
theorem rho_srt (n : Nat) (Z : Nat → Gv) (r : Nat) : Srt (rho n Z r).1 := by
  unfold rho
  split
  · exact List.Pairwise.nil
  · exact Un.joinB_srt _ _ List.Pairwise.nil
theorem rho_some {n : Nat} {Z : Nat → Gv} {r i : Nat} (hi : i < n) (hp : (Z i).row = (r : Int)) (h : ∀ j, j < i → (Z j).row ≠ (r : Int)) : rho n Z r = (joinB [] (Z i).nm, (Z i).more.toNat) := by
  unfold rho
  rw [firstOf_some hi (by simpa using hp) (fun j hj => by simpa using h j hj)]
theorem rho_none {n : Nat} {Z : Nat → Gv} {r : Nat} (h : ∀ j, j < n → (Z j).row ≠ (r : Int)) : rho n Z r = ([], r) := by
  unfold rho
  rw [firstOf_none (fun j hj => by simpa using h j hj)]
/-- What can be read in whole, in these blocks alone. -/
def RdO (w : World) (P : Nat → Prop) : Nat → Value → Value → Prop
  | 0, _, _ => False
  | n + 1, os, az => (∃ o : List (List UInt8), OpsV w os o ∧ o.length ≤ 9223372036854775807 ∧ (o ≠ [] → ∀ k, os.ownBlock = some k → P k)) ∧
      ∃ (a : Option Addr) (l c : Nat), az = .slice a l c ∧ l ≤ c ∧ l ≤ 9223372036854775807 ∧ (l ≠ 0 → ∃ g o, a = some ⟨g, o, none⟩ ∧ P g ∧ ∀ i, i < l → ∃ k m r os' az', El w g (o + i * 5) k m r os' az' ∧ RdO w P n os' az')
theorem RdO.rdd {w : World} {P : Nat → Prop} : ∀ {n : Nat} {os az : Value}, RdO w P n os az → Rdd w n os az := by
  intro n
  induction n with
  | zero => intro os az h; exact h
  | succ n ih =>
    rintro os az ⟨⟨o, h1, h2, _⟩, a, l, c, e, h3, h4, h5⟩
    refine ⟨⟨o, h1, h2⟩, a, l, c, e, h3, h4, fun h0 => ?_⟩
    obtain ⟨g, q, e2, _, h6⟩ := h5 h0
    refine ⟨g, q, e2, fun i hi => ?_⟩
    obtain ⟨k, m, r, os', az', h7, h8⟩ := h6 i hi
    exact ⟨k, m, r, os', az', h7, ih h8⟩
theorem Rdd.rdo {w : World} : ∀ {n : Nat} {os az : Value}, Rdd w n os az → RdO w (fun k => k < w.heap.size) n os az := by
  intro n
  induction n with
  | zero => intro os az h; exact h
  | succ n ih =>
    rintro os az ⟨⟨o, h1, h2⟩, a, l, c, e, h3, h4, h5⟩
    refine ⟨⟨o, h1, h2, fun h0 k hk => ?_⟩, a, l, c, e, h3, h4, fun h0 => ?_⟩
    · obtain ⟨a', c', rfl, _, h6⟩ := h1
      obtain ⟨g, q, rfl, h7⟩ := h6 h0
      cases hk
      have hl : 0 < o.length := List.length_pos_iff.2 h0
      exact World.block_lt_of_cell? w ⟨g, q + 0, none⟩ (h7 0 hl)
    · obtain ⟨g, q, e2, h6⟩ := h5 h0
      obtain ⟨k, m, r, os', az', h7, _⟩ := h6 0 (by omega)
      refine ⟨g, q, e2, h7.lt, fun i hi => ?_⟩
      obtain ⟨k, m, r, os', az', h7, h8⟩ := h6 i hi
      exact ⟨k, m, r, os', az', h7, ih h8⟩
theorem RdO.mono {w : World} {P Q : Nat → Prop} (hs : ∀ k, P k → Q k) : ∀ {n m : Nat} {os az : Value}, RdO w P n os az → n ≤ m → RdO w Q m os az := by
  intro n
  induction n with
  | zero => intro m os az h; exact h.elim
  | succ n ih =>
    rintro m os az ⟨⟨o, h1, h2, hp⟩, a, l, c, e, h3, h4, h5⟩ hm
    obtain ⟨m, rfl⟩ : ∃ i, m = i + 1 := ⟨m - 1, by omega⟩
    refine ⟨⟨o, h1, h2, fun h0 k hk => hs k (hp h0 k hk)⟩, a, l, c, e, h3, h4, fun h0 => ?_⟩
    obtain ⟨g, q, e2, hg, h6⟩ := h5 h0
    refine ⟨g, q, e2, hs g hg, fun i hi => ?_⟩
    obtain ⟨k, m', r, os', az', h7, h8⟩ := h6 i hi
    exact ⟨k, m', r, os', az', h7, ih h8 (by omega)⟩
theorem OpsV.on {w w' : World} {v : Value} {o : List Nm} (h : OpsV w v o) (hs : o ≠ [] → ∀ k, v.ownBlock = some k → k < w.heap.size → w'.heap[k]? = w.heap[k]?) : OpsV w' v o := by
  obtain ⟨a, c, rfl, h1, h2⟩ := h
  refine ⟨a, c, rfl, h1, fun h0 => ?_⟩
  obtain ⟨g, q, rfl, h3⟩ := h2 h0
  refine ⟨g, q, rfl, fun i hi => ?_⟩
  rw [World.cell?_of_block (hs h0 g rfl (World.block_lt_of_cell? w ⟨g, q + i, none⟩ (h3 i hi)))]
  exact h3 i hi
theorem RdO.keep {w w' : World} {P O : Nat → Prop} (hc : Ch O w w') (hd : ∀ k, P k → ¬ O k) : ∀ {n : Nat} {os az : Value}, RdO w P n os az → RdO w' P n os az := by
  intro n
  induction n with
  | zero => intro os az h; exact h
  | succ n ih =>
    rintro os az ⟨⟨o, h1, h2, hp⟩, a, l, c, e, h3, h4, h5⟩
    refine ⟨⟨o, h1.on (fun h0 k hk hl => hc.same k hl (hd k (hp h0 k hk))), h2, hp⟩, a, l, c, e, h3, h4, fun h0 => ?_⟩
    obtain ⟨g, q, e2, hg, h6⟩ := h5 h0
    refine ⟨g, q, e2, hg, fun i hi => ?_⟩
    obtain ⟨k, m, r, os', az', h7, h8⟩ := h6 i hi
    exact ⟨k, m, r, os', az', h7.of_heap (hc.same g h7.lt (hd g hg)), ih h8⟩
theorem FT.backO {w w' : World} {P O : Nat → Prop} (hc : Ch O w w') (hd : ∀ k, P k → ¬ O k) : ∀ {n : Nat} {k m r : Int} {os az : Value} {t : Ty.P}, RdO w P n os az → FT w' k m r os az t → FT w k m r os az t := by
  intro n
  induction n with
  | zero => intro k m r os az t h; exact h.elim
  | succ n ih =>
    rintro k m r os az t ⟨⟨o, h1, h2, hp⟩, a, l, c, rfl, h3, h4, h5⟩ hf
    have h1' := h1.on (w' := w') (fun h0 k hk hl => hc.same k hl (hd k (hp h0 k hk)))
    obtain ⟨q1, q2, q3⟩ := hf.gen h1'
    obtain ⟨f1, f2, f3, f4⟩ := hf
    refine ⟨f1, f2, f3, ?_⟩
    subst q2
    refine isT_mk (by rw [← q1]; exact h1) h3 (fun i u hu => ?_)
    have hi : i < (kidsT t).length := (List.getElem?_eq_some_iff.1 hu).1
    obtain ⟨g, q, e2, hg, h6⟩ := h5 (by omega)
    obtain ⟨k', m', r', os', az', h7, h8⟩ := h6 i hi
    have h9 := q3 g q e2 i u hu (h7.of_heap (hc.same g h7.lt (hd g hg)))
    obtain ⟨e3, e4, e5, h10⟩ := ih h8 h9
    subst e3 e4 e5
    exact ⟨g, q, os', az', e2, h7, h10⟩
/-- What by answers. -/
def ByP (σ : Nat → Ty.P) (w0 w : World) (n : Nat) (Z : Nat → Gv) (t : Ty.P) (e : Ending) (w' : World) : Prop :=
  ∃ (x : Raw) (d : Nat), e = .returned (tyV x.k x.n x.r x.os x.az) ∧ RdO w' (fun k => k < w0.heap.size ∨ w.heap.size ≤ k) d x.os x.az ∧ Ch (fun _ => False) w w' ∧ ∀ u, FTR w' x u → u = app σ (rho n Z) t
def ByOK (t : Ty.P) : Prop := ∀ (σ : Nat → Ty.P) (w0 w : World) (d : Nat) (a : Option Addr) (g o n c : Nat) (Z : Nat → Gv) (os az : Value), Ch (fun _ => False) w0 w → (n ≠ 0 → a = some ⟨g, o, none⟩) → GvM w0 d g o n Z → Sig w0 n Z σ → IsT w0 t os az → t.ok → t.parts ≤ 300 →
  Calls Try.prog 6 #[tyV t.kind t.num t.row os az, .slice a n c] w fun e w' => ByP σ w0 w n Z t e w'
end Go.Proofs.Ytcogpcalghfghaa

namespace Go.Proofs.Ytcogpcalghfghaa
open Go.RowKit

/-- A map from numbers to values. -/
def MVal (w : World) (mB : Nat) (l : List (Int × Value)) : Prop := ∃ es clock, w.heap[mB]? = some (.map es clock) ∧ es.toList.map (fun e => (e.key, e.val)) = l.map fun p => (Value.int .i64 p.1, p.2)
theorem MVal.lt {w : World} {mB : Nat} {l : List (Int × Value)} (h : MVal w mB l) : mB < w.heap.size := by
  obtain ⟨es, c, h, _⟩ := h
  exact (Array.getElem?_eq_some_iff.1 h).1
theorem MVal.keep {w w' : World} {mB : Nat} {l : List (Int × Value)} (h : MVal w mB l) {O : Nat → Prop} (hc : Ch O w w') (ho : ¬ O mB) : MVal w' mB l := by
  obtain ⟨es, c, h1, h2⟩ := h
  exact ⟨es, c, (hc.same _ (Array.getElem?_eq_some_iff.1 h1).1 ho).trans h1, h2⟩
theorem MVal.empty {w : World} {b : Nat} (h : w.heap[b]? = some (.map #[] 0)) : MVal w b [] := ⟨#[], 0, h, rfl⟩
theorem findNow_v (k : Int) : ∀ (es : List MapEntry) (l : List (Int × Value)) (i : Nat), es.map (fun e => (e.key, e.val)) = l.map (fun p => (Value.int .i64 p.1, p.2)) →
    (l.lookup k = none → Instr.findNow (.int .i64) (.int .i64 k) es i = some none) ∧ (∀ v, l.lookup k = some v → ∃ j, Instr.findNow (.int .i64) (.int .i64 k) es i = some (some (i + j, v)))
  | [], [], i, _ => ⟨fun _ => rfl, fun v h => by cases h⟩
  | [], _ :: _, _, h => by cases h
  | _ :: _, [], _, h => by cases h
  | e :: es, p :: l, i, h => by
    simp only [List.map_cons, List.cons.injEq, Prod.mk.injEq] at h
    obtain ⟨⟨hk, hv⟩, hr⟩ := h
    obtain ⟨h1, h2⟩ := findNow_v k es l (i + 1) hr
    by_cases e1 : k = p.1
    · refine ⟨fun h => by simp [List.lookup, e1] at h, fun v h => ⟨0, ?_⟩⟩
      have : p.2 = v := by simpa [List.lookup, e1] using h
      simp [Instr.findNow, Instr.sameNow, hk, hv, this, e1]
    · have e2 : (k == p.1) = false := by simp [e1]
      refine ⟨fun h => ?_, fun v h => ?_⟩
      · have : l.lookup k = none := by simpa [List.lookup, e2] using h
        simp [Instr.findNow, Instr.sameNow, hk, h1 this, e2]
      · have : l.lookup k = some v := by simpa [List.lookup, e2] using h
        obtain ⟨j, hj⟩ := h2 v this
        refine ⟨j + 1, ?_⟩
        have e3 : i + 1 + j = i + (j + 1) := by omega
        simp [Instr.findNow, Instr.sameNow, hk, hj, e2, e3]
theorem run_lookV {tm tv : TypeId} (hm : Try.prog.underlying tm = some (.map 3 tv)) {zv : Value} (hz : ∀ w, (zeroValue tv).run Try.prog w = .ok zv w) {w : World} {mB : Nat} {l : List (Int × Value)} (h : MVal w mB l) (k : Int) : (Instr.lookup tm (.map (some mB)) (.int .i64 k) true).run Try.prog w = .ok (.tuple #[(l.lookup k).getD zv, .bool (l.lookup k).isSome]) w := by
  obtain ⟨es, clock, hb, he⟩ := h
  obtain ⟨h1, h2⟩ := findNow_v k es.toList l 0 he
  cases hk : l.lookup k with
  | none =>
    simp only [Instr.lookup, Sem.run_bind, run_underlying hm, Result.andThen_ok, MapKept.run_getObj_map hb, Sem.run_pure, ckInt, MapKept.run_findKey Try.und3 (h1 hk), hz]
    rfl
  | some v =>
    obtain ⟨j, hj⟩ := h2 v hk
    simp only [Instr.lookup, Sem.run_bind, run_underlying hm, Result.andThen_ok, MapKept.run_getObj_map hb, Sem.run_pure, ckInt, MapKept.run_findKey Try.und3 hj]
    rfl
theorem run_updV {tm tv : TypeId} (hm : Try.prog.underlying tm = some (.map 3 tv)) {w : World} {mB : Nat} {l : List (Int × Value)} (h : MVal w mB l) {k : Int} (hk : l.lookup k = none) (b : Value) : ∃ w', (Instr.mapUpdate tm (.map (some mB)) (.int .i64 k) b).run Try.prog w = .ok () w' ∧ MVal w' mB (l ++ [(k, b)]) ∧ Ch (fun j => j = mB) w w' := by
  obtain ⟨es, clock, hb, he⟩ := h
  obtain ⟨h1, h2⟩ := findNow_v k es.toList l 0 he
  refine ⟨wput w mB (.map (es.push { key := .int .i64 k, val := b, born := clock }) (clock + 1)), ?_, ⟨_, _, (MapKept.heap_set hb).1, ?_⟩, ⟨by simp [wput], fun j _ hne => (MapKept.heap_set hb).2 j hne, rfl, rfl⟩⟩
  · simp only [Instr.mapUpdate, Sem.run_bind, run_underlying hm, Result.andThen_ok, MapKept.run_getObj_map hb, ckInt, MapKept.run_findKey Try.und3 (h1 hk)]
    exact MapKept.run_setObj_map _ hb
  · simp [he]

theorem und_it : Try.prog.underlying 38 = some (.map 3 27) := by kernel_rfl
theorem und_ig : Try.prog.underlying 39 = some (.map 3 58) := by kernel_rfl
theorem zero_type (w : World) : (zeroValue 27).run Try.prog w = .ok (tyV 0 0 0 (.slice none 0 0) (.slice none 0 0)) w := by kernel_rfl
theorem zero_given (w : World) : (zeroValue 58).run Try.prog w = .ok (.agg #[.int .i64 0, .int .i64 0, .int .i64 0, .int .i64 0, .slice none 0 0, .slice none 0 0, .int .i64 0, .slice none 0 0, .int .i64 0]) w := by kernel_rfl
end Go.Proofs.Ytcogpcalghfghaa
