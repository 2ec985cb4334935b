/-
  Which type cells say: there is one at most; the document's args.
-/
import Derived.Test.YtcogpcalghfghaaMTy
import Derived.Test.YtcogpcalghfghaaDb
import Derived.Deep.LoopGhost
set_option linter.unusedVariables false
set_option linter.unusedSimpArgs false
namespace Go.Proofs.Ytcogpcalghfghaa
open Go.RowKit

/-- How many args a kind has. -/
def argsN (k : Int) : Int := if k = 0 ∨ k = 1 ∨ k = 2 ∨ k = 3 then 0 else if k = 4 then 1 else if k = 5 ∨ k = 6 then 2 else -1

set_option maxHeartbeats 400000 in
theorem args_any (k : Int) (w : World) : Calls Try.prog 22 #[.int .i64 k] w fun e w' => e = .returned (.int .i64 (argsN k)) ∧ w' = w := by
  unfold argsN
  go_enter Try.func22, Try.ntmps22
  go_wp2
  all_goals go_ret
  all_goals simp_all
theorem argsN_le (k : Int) : argsN k ≤ 2 := by
  unfold argsN
  split
  · omega
  · split
    · omega
    · split <;> omega

theorem OpsV.cells {w : World} {a : Option Addr} {c : Nat} {o : List (List UInt8)} (h : OpsV w (.slice a o.length c) o) (h0 : o ≠ []) :
    ∃ g k, a = some ⟨g, k, none⟩ ∧ ∀ i (h : i < o.length), w.cell? ⟨g, k + i, none⟩ = some (.string ⟨o[i].toArray⟩) := by
  obtain ⟨a', c', h1, _, h3⟩ := h
  simp only [Value.slice.injEq] at h1
  rw [h1.1]
  exact h3 h0
theorem OpsV.one {w : World} {v : Value} {o o' : List (List UInt8)} (h : OpsV w v o) (h' : OpsV w v o') : o = o' := by
  obtain ⟨a, c, rfl, hc, h1⟩ := h
  obtain ⟨a', c', e, hc', h1'⟩ := h'
  simp only [Value.slice.injEq] at e
  obtain ⟨rfl, hl, rfl⟩ := e
  by_cases h0 : o = []
  · subst h0
    exact (List.length_eq_zero_iff.1 hl.symm).symm
  · have h0' : o' ≠ [] := fun e => by subst e; exact h0 (List.length_eq_zero_iff.1 hl)
    obtain ⟨g, k, rfl, hx⟩ := h1 h0
    obtain ⟨g', k', e, hx'⟩ := h1' h0'
    simp only [Option.some.injEq, Addr.mk.injEq, and_true] at e
    obtain ⟨rfl, rfl⟩ := e
    refine List.ext_getElem hl (fun i h1 h2 => ?_)
    have e1 := hx i h1
    rw [hx' i h2] at e1
    have e2 : o'[i].toArray = o[i].toArray := by
      have := Option.some.inj e1
      simpa using this
    simpa using e2.symm
theorem El.one {w : World} {g o : Nat} {k n r k' n' r' : Int} {os az os' az' : Value} (h : El w g o k n r os az) (h' : El w g o k' n' r' os' az') : k = k' ∧ n = n' ∧ r = r' ∧ os = os' ∧ az = az' := by
  obtain ⟨h0, h1, h2, h3, h4⟩ := h
  obtain ⟨e0, e1, e2, e3, e4⟩ := h'
  rw [h0] at e0; rw [h1] at e1; rw [h2] at e2; rw [h3] at e3; rw [h4] at e4
  simp only [Option.some.injEq, Value.int.injEq, true_and] at e0 e1 e2 e3 e4
  exact ⟨e0, e1, e2, e3, e4⟩

/-- A proper type, but for its parts, as these cells say it. -/
def Fits (w : World) (k n r : Int) (os az : Value) (t : Ty.P) : Prop := t.ok ∧ k = t.kind ∧ n = t.num ∧ r = t.row ∧ IsT w t os az
def Ty.P.kids : Ty.P → List Ty.P
  | .list a => [a]
  | .pair a b => [a, b]
  | .fn a b _ _ => [a, b]
  | _ => []
def sumP (l : List Ty.P) : Nat := (l.map Ty.P.parts).sum
theorem sumP_snoc (l : List Ty.P) (t : Ty.P) : sumP (l ++ [t]) = sumP l + t.parts := by simp [sumP]
theorem kids_parts (t : Ty.P) : t.parts = 1 + t.ops.length + sumP t.kids := by
  cases t <;> simp [Ty.P.parts, Ty.P.ops, Ty.P.kids, sumP] <;> omega
/-- The first elements are types. -/
def elsOK (w : World) (g o : Nat) (l : List Ty.P) : Prop := ∀ i (h : i < l.length), l[i].ok ∧ ∃ os az, ElT w g (o + i * 5) l[i] os az ∧ IsT w l[i] os az
theorem Fits.kids {w : World} {k n r : Int} {os : Value} {aa : Option Addr} {la ca : Nat} {t : Ty.P} (h : Fits w k n r os (.slice aa la ca) t) :
    t.kids.length = la ∧ (la : Int) = argsN k ∧ ∀ g o, aa = some ⟨g, o, none⟩ → elsOK w g o t.kids := by
  obtain ⟨h1, rfl, rfl, rfl, h2⟩ := h
  have two : ∀ (g : Nat) (o : Nat) (a b : Ty.P) (os1 az1 os2 az2 : Value), a.ok → b.ok → ElT w g o a os1 az1 → IsT w a os1 az1 → ElT w g (o + 5) b os2 az2 → IsT w b os2 az2 → elsOK w g o [a, b] := by
    intro g o a b os1 az1 os2 az2 h1 h2 h3 h4 h5 h6 i hi
    match i, hi with
    | 0, _ => exact ⟨h1, os1, az1, by simpa using h3, h4⟩
    | 1, _ => exact ⟨h2, os2, az2, by simpa using h5, h6⟩
  cases t with
  | list a =>
    obtain ⟨_, g, o, c, os', az', e, _, h3, h4⟩ := h2
    simp only [Value.slice.injEq] at e
    obtain ⟨rfl, rfl, rfl⟩ := e
    refine ⟨rfl, rfl, fun g' o' e => ?_⟩
    simp only [Option.some.injEq, Addr.mk.injEq, and_true] at e
    obtain ⟨rfl, rfl⟩ := e
    intro i hi
    match i, hi with
    | 0, _ => exact ⟨h1, os', az', by rw [Nat.zero_mul, Nat.add_zero]; exact h3, h4⟩
  | pair a b =>
    obtain ⟨_, g, o, c, os1, az1, os2, az2, e, _, h3, h4, h5, h6⟩ := h2
    simp only [Value.slice.injEq] at e
    obtain ⟨rfl, rfl, rfl⟩ := e
    refine ⟨rfl, rfl, fun g' o' e => ?_⟩
    simp only [Option.some.injEq, Addr.mk.injEq, and_true] at e
    obtain ⟨rfl, rfl⟩ := e
    exact two _ _ _ _ _ _ _ _ h1.1 h1.2 h3 h4 h5 h6
  | fn a b l r =>
    obtain ⟨_, g, o, c, os1, az1, os2, az2, e, _, h3, h4, h5, h6⟩ := h2
    simp only [Value.slice.injEq] at e
    obtain ⟨rfl, rfl, rfl⟩ := e
    refine ⟨rfl, rfl, fun g' o' e => ?_⟩
    simp only [Option.some.injEq, Addr.mk.injEq, and_true] at e
    obtain ⟨rfl, rfl⟩ := e
    exact two _ _ _ _ _ _ _ _ h1.1 h1.2.1 h3 h4 h5 h6
  | _ =>
    obtain ⟨_, a, c, e⟩ := h2
    simp only [Value.slice.injEq] at e
    obtain ⟨rfl, rfl, rfl⟩ := e
    exact ⟨rfl, rfl, fun g' o' e i hi => absurd hi (by simp [Ty.P.kids])⟩
theorem isT_one {w : World} : ∀ {t t' : Ty.P} {os az : Value}, t.kind = t'.kind → t.num = t'.num → t.row = t'.row → IsT w t os az → IsT w t' os az → t = t' := by
  intro t
  induction t with
  | var n => intro t' os az h1 h2 h3 _ _; cases t' <;> simp_all [Ty.P.kind, Ty.P.num]
  | int => intro t' os az h1 h2 h3 _ _; cases t' <;> simp_all [Ty.P.kind]
  | bool => intro t' os az h1 h2 h3 _ _; cases t' <;> simp_all [Ty.P.kind]
  | unit => intro t' os az h1 h2 h3 _ _; cases t' <;> simp_all [Ty.P.kind]
  | list a ih =>
    intro t' os az h1 h2 h3 h h'
    cases t' <;> simp [Ty.P.kind] at h1
    obtain ⟨_, g, o, c, os', az', rfl, _, e1, i1⟩ := h
    obtain ⟨_, g', o', c', os2, az2, e, _, e2, i2⟩ := h'
    simp only [Value.slice.injEq, Option.some.injEq, Addr.mk.injEq, and_true, true_and] at e
    obtain ⟨⟨rfl, rfl⟩, rfl⟩ := e
    obtain ⟨q1, q2, q3, rfl, rfl⟩ := El.one e1 e2
    rw [ih (by omega) (by omega) (by omega) i1 i2]
  | pair a b iha ihb =>
    intro t' os az h1 h2 h3 h h'
    cases t' <;> simp [Ty.P.kind] at h1
    obtain ⟨_, g, o, c, os', az', os3, az3, rfl, _, e1, i1, e3, i3⟩ := h
    obtain ⟨_, g', o', c', os2, az2, os4, az4, e, _, e2, i2, e4, i4⟩ := h'
    simp only [Value.slice.injEq, Option.some.injEq, Addr.mk.injEq, and_true, true_and] at e
    obtain ⟨⟨rfl, rfl⟩, rfl⟩ := e
    obtain ⟨q1, q2, q3, rfl, rfl⟩ := El.one e1 e2
    obtain ⟨q4, q5, q6, rfl, rfl⟩ := El.one e3 e4
    rw [iha (by omega) (by omega) (by omega) i1 i2, ihb (by omega) (by omega) (by omega) i3 i4]
  | fn a b l r iha ihb =>
    intro t' os az h1 h2 h3 h h'
    cases t' <;> simp [Ty.P.kind] at h1
    obtain ⟨o1, g, o, c, os', az', os3, az3, rfl, _, e1, i1, e3, i3⟩ := h
    obtain ⟨o2, g', o', c', os2, az2, os4, az4, e, _, e2, i2, e4, i4⟩ := h'
    simp only [Value.slice.injEq, Option.some.injEq, Addr.mk.injEq, and_true, true_and] at e
    obtain ⟨⟨rfl, rfl⟩, rfl⟩ := e
    obtain ⟨q1, q2, q3, rfl, rfl⟩ := El.one e1 e2
    obtain ⟨q4, q5, q6, rfl, rfl⟩ := El.one e3 e4
    have h3' : r = _ := h3
    rw [iha (by omega) (by omega) (by omega) i1 i2, ihb (by omega) (by omega) (by omega) i3 i4, o1.one o2, h3']
    rfl
theorem Fits.one {w : World} {k n r : Int} {os az : Value} {t t' : Ty.P} (h : Fits w k n r os az t) (h' : Fits w k n r os az t') : t = t' := by
  obtain ⟨_, h1, h2, h3, h4⟩ := h
  obtain ⟨_, e1, e2, e3, e4⟩ := h'
  exact isT_one (by omega) (by omega) (by omega) h4 e4
theorem elsOK.fits {w : World} {g o : Nat} {l : List Ty.P} (h : elsOK w g o l) {i : Nat} (hi : i < l.length) {k n r : Int} {os az : Value} (he : El w g (o + i * 5) k n r os az) : Fits w k n r os az l[i] := by
  obtain ⟨h1, os', az', h2, h3⟩ := h i hi
  obtain ⟨q1, q2, q3, rfl, rfl⟩ := El.one he h2
  exact ⟨h1, q1, q2, q3, h3⟩
theorem elsOK.pre {w : World} {g o : Nat} {l m : List Ty.P} (h : elsOK w g o l) (h' : elsOK w g o m) (hl : l.length ≤ m.length) : l = m.take l.length := by
  refine List.ext_getElem (by simp; omega) (fun i h1 h2 => ?_)
  obtain ⟨a1, os, az, a2, a3⟩ := h i h1
  have := (h'.fits (i := i) (by omega) a2).one ⟨a1, rfl, rfl, rfl, a3⟩
  rw [List.getElem_take]
  exact this.symm
theorem sumP_take : ∀ (l : List Ty.P) (i : Nat), sumP (l.take i) ≤ sumP l := by
  intro l
  induction l with
  | nil => intro i; simp
  | cons a l ih =>
    intro i
    cases i with
    | zero => simp [sumP]
    | succ i => have := ih i; simp [sumP] at this ⊢; exact this
theorem Fits.ops {w : World} {k n r : Int} {os az : Value} {t : Ty.P} (h : Fits w k n r os az t) {a : Option Addr} {c : Nat} {o : List (List UInt8)} (e : os = .slice a o.length c) (ho : OpsV w os o) : t.ops = o := by
  obtain ⟨_, _, _, _, h4⟩ := h
  have nul : ∀ os : Value, Nul os → OpsV w os o → ([] : List (List UInt8)) = o := by
    rintro os ⟨a, c, rfl⟩ ho
    obtain ⟨a', c', e, _⟩ := ho
    simp only [Value.slice.injEq] at e
    exact (List.length_eq_zero_iff.1 e.2.1.symm).symm
  cases t with
  | fn a b l r => exact h4.1.one ho
  | list a => exact nul _ h4.1 ho
  | pair a b => exact nul _ h4.1 ho
  | _ => exact nul _ h4.1 ho
/-- The names of a proper type are as they have to be. -/
theorem ok_ops {t : Ty.P} (h : t.ok) : (∀ x ∈ t.ops, x ≠ []) ∧ Ty.inOrder t.ops := by
  cases t with
  | fn a b l r => exact ⟨h.2.2.2.1, h.2.2.2.2⟩
  | _ => exact ⟨fun x hx => by simp [Ty.P.ops] at hx, trivial⟩
end Go.Proofs.Ytcogpcalghfghaa
