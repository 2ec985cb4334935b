/-
  What the plain rules leave is no more than they were given.
  What the program's rules do: sequence.
-/
import Derived.Test.YtoajnlhegallpaaGreatDoorMDa
import Derived.Deep.RegionLaw
import Derived.BigRegion
set_option linter.unusedVariables false
set_option linter.unusedSimpArgs false
set_option maxRecDepth 100000
set_option maxHeartbeats 4000000
namespace Go.Proofs.YtoajnlhegallpaaGreatDoor
open Sy Lx

def LeB {α : Type} (n : Nat) (x : R α) : Prop := ∀ a us, x = .ok (a, us) → us.length ≤ n
theorem LeB.err {α : Type} {n : Nat} (e : Nat × Nat) : LeB n (.error e : R α) := fun _ _ h => by cases h
theorem LeB.okk {α : Type} {n : Nat} {a : α} {us : List Tk} (h : us.length ≤ n) : LeB n (.ok (a, us) : R α) := fun _ _ e => by cases e; exact h
theorem LeB.bnd {α β : Type} {n : Nat} {x : R α} {f : α → List Tk → R β} (hx : LeB n x) (hf : ∀ a us, us.length ≤ n → LeB n (f a us)) : LeB n (Sy.bnd x f) := by
 intro b vs h
 rcases x with e | ⟨a, us⟩
 ·cases h
 ·exact hf a us (hx a us rfl) b vs h
theorem LeB.ite {α : Type} {n : Nat} {c : Prop} [Decidable c] {x y : R α} (h1 : c → LeB n x) (h2 : ¬ c → LeB n y) : LeB n (if c then x else y) := by
 split
 ·rename_i h; exact h1 h
 ·rename_i h; exact h2 h
theorem LeB.mono {α : Type} {n m : Nat} {x : R α} (h : LeB n x) (hm : n ≤ m) : LeB m x := fun a us e => Nat.le_trans (h a us e) hm
section
variable {z : Env} {N n : Nat} {ts : List Tk}
theorem le_look (h : ts.length ≤ n) : LeB n (lookB z ts) := fun a us e => by
 obtain ⟨rfl, _⟩ := look_ok e
 exact h
theorem LeB.iteB {α : Type} {x : List UInt8} {y no : List Tk → R α} (h : ts.length ≤ n) (h1 : ∀ us, us.length ≤ n → LeB n (y us)) (h2 : ∀ us, us.length ≤ n → LeB n (no us)) : LeB n (Sy.iteB z x ts y no) := by
 unfold Sy.iteB
 exact LeB.bnd (le_look h) fun _ _ _ => LeB.ite (fun _ => h1 _ (by simp only [List.length_tail]; omega)) (fun _ => h2 _ h)
theorem le_need {x : List UInt8} (h : ts.length ≤ n) : LeB n (needB z x ts) := by
 unfold needB
 exact LeB.bnd (le_look h) fun _ _ _ => LeB.ite (fun _ => LeB.okk (by simp only [List.length_tail]; omega)) (fun _ => LeB.err _)
theorem le_kind {k : Nat} (h : ts.length ≤ n) : LeB n (kindB z k ts) := by
 unfold kindB
 exact LeB.bnd (le_look h) fun _ _ _ => LeB.ite (fun _ => LeB.okk (by simp only [List.length_tail]; omega)) (fun _ => LeB.err _)
theorem le_take (h : ts.length ≤ n) : LeB n (takeB z ts) := by
 unfold takeB
 exact LeB.bnd (le_look h) fun _ _ _ => LeB.okk (by simp only [List.length_tail]; omega)
theorem le_named (h : ts.length ≤ n) : LeB n (namedB z ts) := by
 unfold namedB
 exact LeB.bnd (le_kind h) fun _ _ h2 => LeB.okk h2
theorem le_takes {x : List UInt8} (h : ts.length ≤ n) : LeB n (takesB z x ts) := by
 unfold takesB
 exact LeB.bnd (le_look h) fun _ _ _ => LeB.ite (fun _ => LeB.okk (by simp only [List.length_tail]; omega)) (fun _ => LeB.okk h)
theorem lt_takes {x : List UInt8} {us : List Tk} (hx : x ≠ []) (h : takesB z x ts = .ok (true, us)) : us.length < ts.length := by
 unfold takesB at h
 cases hl : lookB z ts with
 | error f => rw [hl] at h; cases h
 | ok q =>
  obtain ⟨t, vs⟩ := q
  rw [hl] at h
  simp only [Sy.bnd] at h
  by_cases hv : (t.text == x) = true
  ·rw [if_pos hv] at h
   cases h
   have ht := look_some hl (.inl (by have : t.text = x := by simpa using hv
                                     rw [this]; exact hx))
   rw [ht]
   simp
  ·rw [if_neg hv] at h; cases h
theorem lt_kind {k : Nat} {t : Tk} {us : List Tk} (hk : k ≠ 0) (h : kindB z k ts = .ok (t, us)) : us.length < ts.length := by
 unfold kindB at h
 cases hl : lookB z ts with
 | error f => rw [hl] at h; cases h
 | ok q =>
  obtain ⟨t2, vs⟩ := q
  rw [hl] at h
  simp only [Sy.bnd] at h
  by_cases hv : (t2.kind == k) = true
  ·have hk2 : t2.kind ≠ 0 := by
    have : t2.kind = k := by simpa using hv
    rw [this]; exact hk
   rw [if_pos hv] at h
   cases h
   rw [look_some hl (.inr hk2)]
   simp
  ·rw [if_neg hv] at h; cases h
theorem le_names {least : Nat} : ∀ (m : Nat) (l : List Tk) (ts : List Tk), ts.length ≤ n → LeB n (namesB z least m l ts) := by
 intro m
 induction m with
 | zero =>
  intros
  unfold namesB
  repeat' first
   | with_reducible exact LeB.err _
   | with_reducible refine LeB.bnd ?_ (fun _ _ _ => ?_)
   | with_reducible refine LeB.iteB ?_ (fun _ _ => ?_) (fun _ _ => ?_)
   | with_reducible refine LeB.ite (fun _ => ?_) (fun _ => ?_)
   | with_reducible refine le_look ?_
   | with_reducible refine le_need ?_
   | with_reducible refine le_kind ?_
   | with_reducible refine le_take ?_
   | with_reducible refine le_named ?_
   | with_reducible assumption
   | (simp only [List.length_tail]; omega)
   | with_reducible refine LeB.okk ?_
 | succ m ih =>
  intros
  unfold namesB
  repeat' first
   | with_reducible exact LeB.err _
   | with_reducible refine LeB.bnd ?_ (fun _ _ _ => ?_)
   | with_reducible refine LeB.iteB ?_ (fun _ _ => ?_) (fun _ _ => ?_)
   | with_reducible refine LeB.ite (fun _ => ?_) (fun _ => ?_)
   | with_reducible refine le_look ?_
   | with_reducible refine le_need ?_
   | with_reducible refine le_kind ?_
   | with_reducible refine le_take ?_
   | with_reducible refine le_named ?_
   | with_reducible refine ih _ ?_
   | with_reducible refine ih _ _ ?_
   | with_reducible assumption
   | (simp only [List.length_tail]; omega)
   | with_reducible refine LeB.okk ?_
theorem le_row : ∀ (m : Nat) (l : List Tr) (ts : List Tk), ts.length ≤ n → LeB n (rowB z m l ts) := by
 intro m
 induction m with
 | zero =>
  intros
  unfold rowB
  repeat' first
   | with_reducible exact LeB.err _
   | with_reducible refine LeB.bnd ?_ (fun _ _ _ => ?_)
   | with_reducible refine LeB.iteB ?_ (fun _ _ => ?_) (fun _ _ => ?_)
   | with_reducible refine LeB.ite (fun _ => ?_) (fun _ => ?_)
   | with_reducible refine le_look ?_
   | with_reducible refine le_need ?_
   | with_reducible refine le_kind ?_
   | with_reducible refine le_take ?_
   | with_reducible refine le_named ?_
   | with_reducible assumption
   | (simp only [List.length_tail]; omega)
   | with_reducible refine LeB.okk ?_
 | succ m ih =>
  intros
  unfold rowB
  repeat' first
   | with_reducible exact LeB.err _
   | with_reducible refine LeB.bnd ?_ (fun _ _ _ => ?_)
   | with_reducible refine LeB.iteB ?_ (fun _ _ => ?_) (fun _ _ => ?_)
   | with_reducible refine LeB.ite (fun _ => ?_) (fun _ => ?_)
   | with_reducible refine le_look ?_
   | with_reducible refine le_need ?_
   | with_reducible refine le_kind ?_
   | with_reducible refine le_take ?_
   | with_reducible refine le_named ?_
   | with_reducible refine ih _ ?_
   | with_reducible refine ih _ _ ?_
   | with_reducible assumption
   | (simp only [List.length_tail]; omega)
   | with_reducible refine LeB.okk ?_
theorem le_lists : ∀ (m : Nat) (a : Tr) (ts : List Tk), ts.length ≤ n → LeB n (listsB z m a ts) := by
 intro m
 induction m with
 | zero =>
  intros
  unfold listsB
  repeat' first
   | with_reducible exact LeB.err _
   | with_reducible refine LeB.bnd ?_ (fun _ _ _ => ?_)
   | with_reducible refine LeB.iteB ?_ (fun _ _ => ?_) (fun _ _ => ?_)
   | with_reducible refine LeB.ite (fun _ => ?_) (fun _ => ?_)
   | with_reducible refine le_look ?_
   | with_reducible refine le_need ?_
   | with_reducible refine le_kind ?_
   | with_reducible refine le_take ?_
   | with_reducible refine le_named ?_
   | with_reducible assumption
   | (simp only [List.length_tail]; omega)
   | with_reducible refine LeB.okk ?_
 | succ m ih =>
  intros
  unfold listsB
  repeat' first
   | with_reducible exact LeB.err _
   | with_reducible refine LeB.bnd ?_ (fun _ _ _ => ?_)
   | with_reducible refine LeB.iteB ?_ (fun _ _ => ?_) (fun _ _ => ?_)
   | with_reducible refine LeB.ite (fun _ => ?_) (fun _ => ?_)
   | with_reducible refine le_look ?_
   | with_reducible refine le_need ?_
   | with_reducible refine le_kind ?_
   | with_reducible refine le_take ?_
   | with_reducible refine le_named ?_
   | with_reducible refine ih _ ?_
   | with_reducible refine ih _ _ ?_
   | with_reducible assumption
   | (simp only [List.length_tail]; omega)
   | with_reducible refine LeB.okk ?_
theorem le_tatom {T : List Tk → R Tr} (hT : ∀ ts : List Tk, ts.length ≤ n → LeB n (T ts)) (ts : List Tk) (h : ts.length ≤ n) : LeB n (tatomB z T ts) := by
 unfold tatomB
 repeat' first
  | with_reducible exact LeB.err _
  | with_reducible refine LeB.bnd ?_ (fun _ _ _ => ?_)
  | with_reducible refine LeB.iteB ?_ (fun _ _ => ?_) (fun _ _ => ?_)
  | with_reducible refine LeB.ite (fun _ => ?_) (fun _ => ?_)
  | with_reducible refine le_look ?_
  | with_reducible refine le_need ?_
  | with_reducible refine le_kind ?_
  | with_reducible refine le_take ?_
  | with_reducible refine le_named ?_
  | with_reducible refine hT _ ?_
  | with_reducible assumption
  | (simp only [List.length_tail]; omega)
  | with_reducible refine LeB.okk ?_
theorem le_some {T : List Tk → R Tr} (hT : ∀ ts : List Tk, ts.length ≤ n → LeB n (T ts)) (ts : List Tk) (h : ts.length ≤ n) : LeB n (someB z N T ts) := by
 unfold someB
 repeat' first
  | with_reducible exact LeB.err _
  | with_reducible refine LeB.bnd ?_ (fun _ _ _ => ?_)
  | with_reducible refine LeB.iteB ?_ (fun _ _ => ?_) (fun _ _ => ?_)
  | with_reducible refine LeB.ite (fun _ => ?_) (fun _ => ?_)
  | with_reducible refine le_look ?_
  | with_reducible refine le_need ?_
  | with_reducible refine le_kind ?_
  | with_reducible refine le_take ?_
  | with_reducible refine le_named ?_
  | with_reducible refine hT _ ?_
  | with_reducible refine le_tatom hT _ ?_
  | with_reducible refine le_lists _ _ _ ?_
  | with_reducible assumption
  | (simp only [List.length_tail]; omega)
  | with_reducible refine LeB.okk ?_
theorem le_pair {T : List Tk → R Tr} (hT : ∀ ts : List Tk, ts.length ≤ n → LeB n (T ts)) : ∀ (m : Nat) (ts : List Tk), ts.length ≤ n → LeB n (pairB z N T m ts) := by
 intro m
 induction m with
 | zero =>
  intros
  unfold pairB
  repeat' first
   | with_reducible exact LeB.err _
   | with_reducible refine LeB.bnd ?_ (fun _ _ _ => ?_)
   | with_reducible refine LeB.iteB ?_ (fun _ _ => ?_) (fun _ _ => ?_)
   | with_reducible refine LeB.ite (fun _ => ?_) (fun _ => ?_)
   | with_reducible refine le_look ?_
   | with_reducible refine le_need ?_
   | with_reducible refine le_kind ?_
   | with_reducible refine le_take ?_
   | with_reducible refine le_named ?_
   | with_reducible assumption
   | (simp only [List.length_tail]; omega)
   | with_reducible refine LeB.okk ?_
 | succ m ih =>
  intros
  unfold pairB
  repeat' first
   | with_reducible exact LeB.err _
   | with_reducible refine LeB.bnd ?_ (fun _ _ _ => ?_)
   | with_reducible refine LeB.iteB ?_ (fun _ _ => ?_) (fun _ _ => ?_)
   | with_reducible refine LeB.ite (fun _ => ?_) (fun _ => ?_)
   | with_reducible refine le_look ?_
   | with_reducible refine le_need ?_
   | with_reducible refine le_kind ?_
   | with_reducible refine le_take ?_
   | with_reducible refine le_named ?_
   | with_reducible refine ih _ ?_
   | with_reducible refine ih _ _ ?_
   | with_reducible refine hT _ ?_
   | with_reducible refine le_tatom hT _ ?_
   | with_reducible refine le_lists _ _ _ ?_
   | with_reducible refine le_some hT _ ?_
   | with_reducible assumption
   | (simp only [List.length_tail]; omega)
   | with_reducible refine LeB.okk ?_
theorem le_typBody {T : List Tk → R Tr} (hT : ∀ ts : List Tk, ts.length ≤ n → LeB n (T ts)) (ts : List Tk) (h : ts.length ≤ n) : LeB n (typBodyB z N T ts) := by
 unfold typBodyB
 repeat' first
  | with_reducible exact LeB.err _
  | with_reducible refine LeB.bnd ?_ (fun _ _ _ => ?_)
  | with_reducible refine LeB.iteB ?_ (fun _ _ => ?_) (fun _ _ => ?_)
  | with_reducible refine LeB.ite (fun _ => ?_) (fun _ => ?_)
  | with_reducible refine le_look ?_
  | with_reducible refine le_need ?_
  | with_reducible refine le_kind ?_
  | with_reducible refine le_take ?_
  | with_reducible refine le_named ?_
  | with_reducible refine hT _ ?_
  | with_reducible refine le_tatom hT _ ?_
  | with_reducible refine le_lists _ _ _ ?_
  | with_reducible refine le_some hT _ ?_
  | with_reducible refine le_pair hT _ _ ?_
  | with_reducible refine le_row _ _ _ ?_
  | with_reducible assumption
  | (simp only [List.length_tail]; omega)
  | with_reducible refine LeB.okk ?_
theorem le_typ : ∀ (k : Nat) (ts : List Tk), ts.length ≤ n → LeB n (typB z N k ts) := by
 intro k
 induction k with
 | zero => intro ts h; unfold typB; exact LeB.bnd (le_look h) fun _ _ _ => LeB.err _
 | succ k ih => intro ts h; unfold typB; exact LeB.bnd (le_look h) fun _ _ _ => le_typBody ih _ h
theorem le_squares {E : List Tk → R Tr} (hE : ∀ ts : List Tk, ts.length ≤ n → LeB n (E ts)) : ∀ (m : Nat) (l : List Tr) (ts : List Tk), ts.length ≤ n → LeB n (squaresB z E m l ts) := by
 intro m
 induction m with
 | zero =>
  intros
  unfold squaresB
  repeat' first
   | with_reducible exact LeB.err _
   | with_reducible refine LeB.bnd ?_ (fun _ _ _ => ?_)
   | with_reducible refine LeB.iteB ?_ (fun _ _ => ?_) (fun _ _ => ?_)
   | with_reducible refine LeB.ite (fun _ => ?_) (fun _ => ?_)
   | with_reducible refine le_look ?_
   | with_reducible refine le_need ?_
   | with_reducible refine le_kind ?_
   | with_reducible refine le_take ?_
   | with_reducible refine le_named ?_
   | with_reducible assumption
   | (simp only [List.length_tail]; omega)
   | with_reducible refine LeB.okk ?_
 | succ m ih =>
  intros
  unfold squaresB
  repeat' first
   | with_reducible exact LeB.err _
   | with_reducible refine LeB.bnd ?_ (fun _ _ _ => ?_)
   | with_reducible refine LeB.iteB ?_ (fun _ _ => ?_) (fun _ _ => ?_)
   | with_reducible refine LeB.ite (fun _ => ?_) (fun _ => ?_)
   | with_reducible refine le_look ?_
   | with_reducible refine le_need ?_
   | with_reducible refine le_kind ?_
   | with_reducible refine le_take ?_
   | with_reducible refine le_named ?_
   | with_reducible refine ih _ ?_
   | with_reducible refine ih _ _ ?_
   | with_reducible refine hE _ ?_
   | with_reducible assumption
   | (simp only [List.length_tail]; omega)
   | with_reducible refine LeB.okk ?_
theorem le_square {E : List Tk → R Tr} (hE : ∀ ts : List Tk, ts.length ≤ n → LeB n (E ts)) (p : Nat) (ts : List Tk) (h : ts.length ≤ n) : LeB n (squareB z N E p ts) := by
 unfold squareB
 repeat' first
  | with_reducible exact LeB.err _
  | with_reducible refine LeB.bnd ?_ (fun _ _ _ => ?_)
  | with_reducible refine LeB.iteB ?_ (fun _ _ => ?_) (fun _ _ => ?_)
  | with_reducible refine LeB.ite (fun _ => ?_) (fun _ => ?_)
  | with_reducible refine le_look ?_
  | with_reducible refine le_need ?_
  | with_reducible refine le_kind ?_
  | with_reducible refine le_take ?_
  | with_reducible refine le_named ?_
  | with_reducible refine hE _ ?_
  | with_reducible refine le_squares hE _ _ _ ?_
  | with_reducible assumption
  | (simp only [List.length_tail]; omega)
  | with_reducible refine LeB.okk ?_
theorem le_round {E : List Tk → R Tr} (hE : ∀ ts : List Tk, ts.length ≤ n → LeB n (E ts)) (p : Nat) (ts : List Tk) (h : ts.length ≤ n) : LeB n (roundB z E p ts) := by
 unfold roundB
 repeat' first
  | with_reducible exact LeB.err _
  | with_reducible refine LeB.bnd ?_ (fun _ _ _ => ?_)
  | with_reducible refine LeB.iteB ?_ (fun _ _ => ?_) (fun _ _ => ?_)
  | with_reducible refine LeB.ite (fun _ => ?_) (fun _ => ?_)
  | with_reducible refine le_look ?_
  | with_reducible refine le_need ?_
  | with_reducible refine le_kind ?_
  | with_reducible refine le_take ?_
  | with_reducible refine le_named ?_
  | with_reducible refine hE _ ?_
  | with_reducible refine le_squares hE _ _ _ ?_
  | with_reducible assumption
  | (simp only [List.length_tail]; omega)
  | with_reducible refine LeB.okk ?_
theorem le_atom {E : List Tk → R Tr} (hE : ∀ ts : List Tk, ts.length ≤ n → LeB n (E ts)) (ts : List Tk) (h : ts.length ≤ n) : LeB n (atomB z N E ts) := by
 unfold atomB
 repeat' first
  | with_reducible exact LeB.err _
  | with_reducible refine LeB.bnd ?_ (fun _ _ _ => ?_)
  | with_reducible refine LeB.iteB ?_ (fun _ _ => ?_) (fun _ _ => ?_)
  | with_reducible refine LeB.ite (fun _ => ?_) (fun _ => ?_)
  | with_reducible refine le_look ?_
  | with_reducible refine le_need ?_
  | with_reducible refine le_kind ?_
  | with_reducible refine le_take ?_
  | with_reducible refine le_named ?_
  | with_reducible refine hE _ ?_
  | with_reducible refine le_squares hE _ _ _ ?_
  | with_reducible refine le_square hE _ _ ?_
  | with_reducible refine le_round hE _ _ ?_
  | with_reducible assumption
  | (simp only [List.length_tail]; omega)
  | with_reducible refine LeB.okk ?_
theorem le_apps {E : List Tk → R Tr} (hE : ∀ ts : List Tk, ts.length ≤ n → LeB n (E ts)) : ∀ (m : Nat) (a : Tr) (ts : List Tk), ts.length ≤ n → LeB n (appsB z N E m a ts) := by
 intro m
 induction m with
 | zero =>
  intros
  unfold appsB
  repeat' first
   | with_reducible exact LeB.err _
   | with_reducible refine LeB.bnd ?_ (fun _ _ _ => ?_)
   | with_reducible refine LeB.iteB ?_ (fun _ _ => ?_) (fun _ _ => ?_)
   | with_reducible refine LeB.ite (fun _ => ?_) (fun _ => ?_)
   | with_reducible refine le_look ?_
   | with_reducible refine le_need ?_
   | with_reducible refine le_kind ?_
   | with_reducible refine le_take ?_
   | with_reducible refine le_named ?_
   | with_reducible assumption
   | (simp only [List.length_tail]; omega)
   | with_reducible refine LeB.okk ?_
 | succ m ih =>
  intros
  unfold appsB
  repeat' first
   | with_reducible exact LeB.err _
   | with_reducible refine LeB.bnd ?_ (fun _ _ _ => ?_)
   | with_reducible refine LeB.iteB ?_ (fun _ _ => ?_) (fun _ _ => ?_)
   | with_reducible refine LeB.ite (fun _ => ?_) (fun _ => ?_)
   | with_reducible refine le_look ?_
   | with_reducible refine le_need ?_
   | with_reducible refine le_kind ?_
   | with_reducible refine le_take ?_
   | with_reducible refine le_named ?_
   | with_reducible refine ih _ ?_
   | with_reducible refine ih _ _ ?_
   | with_reducible refine hE _ ?_
   | with_reducible refine le_squares hE _ _ _ ?_
   | with_reducible refine le_square hE _ _ ?_
   | with_reducible refine le_round hE _ _ ?_
   | with_reducible refine le_atom hE _ ?_
   | with_reducible assumption
   | (simp only [List.length_tail]; omega)
   | with_reducible refine LeB.okk ?_
theorem le_app {E : List Tk → R Tr} (hE : ∀ ts : List Tk, ts.length ≤ n → LeB n (E ts)) (ts : List Tk) (h : ts.length ≤ n) : LeB n (appB z N E ts) := by
 unfold appB
 repeat' first
  | with_reducible exact LeB.err _
  | with_reducible refine LeB.bnd ?_ (fun _ _ _ => ?_)
  | with_reducible refine LeB.iteB ?_ (fun _ _ => ?_) (fun _ _ => ?_)
  | with_reducible refine LeB.ite (fun _ => ?_) (fun _ => ?_)
  | with_reducible refine le_look ?_
  | with_reducible refine le_need ?_
  | with_reducible refine le_kind ?_
  | with_reducible refine le_take ?_
  | with_reducible refine le_named ?_
  | with_reducible refine hE _ ?_
  | with_reducible refine le_squares hE _ _ _ ?_
  | with_reducible refine le_square hE _ _ ?_
  | with_reducible refine le_round hE _ _ ?_
  | with_reducible refine le_atom hE _ ?_
  | with_reducible refine le_apps hE _ _ _ ?_
  | with_reducible assumption
  | (simp only [List.length_tail]; omega)
  | with_reducible refine LeB.okk ?_
theorem le_muls {E : List Tk → R Tr} (hE : ∀ ts : List Tk, ts.length ≤ n → LeB n (E ts)) : ∀ (m : Nat) (a : Tr) (ts : List Tk), ts.length ≤ n → LeB n (mulsB z N E m a ts) := by
 intro m
 induction m with
 | zero =>
  intros
  unfold mulsB
  repeat' first
   | with_reducible exact LeB.err _
   | with_reducible refine LeB.bnd ?_ (fun _ _ _ => ?_)
   | with_reducible refine LeB.iteB ?_ (fun _ _ => ?_) (fun _ _ => ?_)
   | with_reducible refine LeB.ite (fun _ => ?_) (fun _ => ?_)
   | with_reducible refine le_look ?_
   | with_reducible refine le_need ?_
   | with_reducible refine le_kind ?_
   | with_reducible refine le_take ?_
   | with_reducible refine le_named ?_
   | with_reducible assumption
   | (simp only [List.length_tail]; omega)
   | with_reducible refine LeB.okk ?_
 | succ m ih =>
  intros
  unfold mulsB
  repeat' first
   | with_reducible exact LeB.err _
   | with_reducible refine LeB.bnd ?_ (fun _ _ _ => ?_)
   | with_reducible refine LeB.iteB ?_ (fun _ _ => ?_) (fun _ _ => ?_)
   | with_reducible refine LeB.ite (fun _ => ?_) (fun _ => ?_)
   | with_reducible refine le_look ?_
   | with_reducible refine le_need ?_
   | with_reducible refine le_kind ?_
   | with_reducible refine le_take ?_
   | with_reducible refine le_named ?_
   | with_reducible refine ih _ ?_
   | with_reducible refine ih _ _ ?_
   | with_reducible refine hE _ ?_
   | with_reducible refine le_squares hE _ _ _ ?_
   | with_reducible refine le_square hE _ _ ?_
   | with_reducible refine le_round hE _ _ ?_
   | with_reducible refine le_atom hE _ ?_
   | with_reducible refine le_apps hE _ _ _ ?_
   | with_reducible refine le_app hE _ ?_
   | with_reducible assumption
   | (simp only [List.length_tail]; omega)
   | with_reducible refine LeB.okk ?_
theorem le_mul {E : List Tk → R Tr} (hE : ∀ ts : List Tk, ts.length ≤ n → LeB n (E ts)) (ts : List Tk) (h : ts.length ≤ n) : LeB n (mulB z N E ts) := by
 unfold mulB
 repeat' first
  | with_reducible exact LeB.err _
  | with_reducible refine LeB.bnd ?_ (fun _ _ _ => ?_)
  | with_reducible refine LeB.iteB ?_ (fun _ _ => ?_) (fun _ _ => ?_)
  | with_reducible refine LeB.ite (fun _ => ?_) (fun _ => ?_)
  | with_reducible refine le_look ?_
  | with_reducible refine le_need ?_
  | with_reducible refine le_kind ?_
  | with_reducible refine le_take ?_
  | with_reducible refine le_named ?_
  | with_reducible refine hE _ ?_
  | with_reducible refine le_squares hE _ _ _ ?_
  | with_reducible refine le_square hE _ _ ?_
  | with_reducible refine le_round hE _ _ ?_
  | with_reducible refine le_atom hE _ ?_
  | with_reducible refine le_apps hE _ _ _ ?_
  | with_reducible refine le_app hE _ ?_
  | with_reducible refine le_muls hE _ _ _ ?_
  | with_reducible assumption
  | (simp only [List.length_tail]; omega)
  | with_reducible refine LeB.okk ?_
theorem le_sums {E : List Tk → R Tr} (hE : ∀ ts : List Tk, ts.length ≤ n → LeB n (E ts)) : ∀ (m : Nat) (a : Tr) (ts : List Tk), ts.length ≤ n → LeB n (sumsB z N E m a ts) := by
 intro m
 induction m with
 | zero =>
  intros
  unfold sumsB
  repeat' first
   | with_reducible exact LeB.err _
   | with_reducible refine LeB.bnd ?_ (fun _ _ _ => ?_)
   | with_reducible refine LeB.iteB ?_ (fun _ _ => ?_) (fun _ _ => ?_)
   | with_reducible refine LeB.ite (fun _ => ?_) (fun _ => ?_)
   | with_reducible refine le_look ?_
   | with_reducible refine le_need ?_
   | with_reducible refine le_kind ?_
   | with_reducible refine le_take ?_
   | with_reducible refine le_named ?_
   | with_reducible assumption
   | (simp only [List.length_tail]; omega)
   | with_reducible refine LeB.okk ?_
 | succ m ih =>
  intros
  unfold sumsB
  repeat' first
   | with_reducible exact LeB.err _
   | with_reducible refine LeB.bnd ?_ (fun _ _ _ => ?_)
   | with_reducible refine LeB.iteB ?_ (fun _ _ => ?_) (fun _ _ => ?_)
   | with_reducible refine LeB.ite (fun _ => ?_) (fun _ => ?_)
   | with_reducible refine le_look ?_
   | with_reducible refine le_need ?_
   | with_reducible refine le_kind ?_
   | with_reducible refine le_take ?_
   | with_reducible refine le_named ?_
   | with_reducible refine ih _ ?_
   | with_reducible refine ih _ _ ?_
   | with_reducible refine hE _ ?_
   | with_reducible refine le_squares hE _ _ _ ?_
   | with_reducible refine le_square hE _ _ ?_
   | with_reducible refine le_round hE _ _ ?_
   | with_reducible refine le_atom hE _ ?_
   | with_reducible refine le_apps hE _ _ _ ?_
   | with_reducible refine le_app hE _ ?_
   | with_reducible refine le_muls hE _ _ _ ?_
   | with_reducible refine le_mul hE _ ?_
   | with_reducible assumption
   | (simp only [List.length_tail]; omega)
   | with_reducible refine LeB.okk ?_
theorem le_sum {E : List Tk → R Tr} (hE : ∀ ts : List Tk, ts.length ≤ n → LeB n (E ts)) (ts : List Tk) (h : ts.length ≤ n) : LeB n (sumB z N E ts) := by
 unfold sumB
 repeat' first
  | with_reducible exact LeB.err _
  | with_reducible refine LeB.bnd ?_ (fun _ _ _ => ?_)
  | with_reducible refine LeB.iteB ?_ (fun _ _ => ?_) (fun _ _ => ?_)
  | with_reducible refine LeB.ite (fun _ => ?_) (fun _ => ?_)
  | with_reducible refine le_look ?_
  | with_reducible refine le_need ?_
  | with_reducible refine le_kind ?_
  | with_reducible refine le_take ?_
  | with_reducible refine le_named ?_
  | with_reducible refine hE _ ?_
  | with_reducible refine le_squares hE _ _ _ ?_
  | with_reducible refine le_square hE _ _ ?_
  | with_reducible refine le_round hE _ _ ?_
  | with_reducible refine le_atom hE _ ?_
  | with_reducible refine le_apps hE _ _ _ ?_
  | with_reducible refine le_app hE _ ?_
  | with_reducible refine le_muls hE _ _ _ ?_
  | with_reducible refine le_mul hE _ ?_
  | with_reducible refine le_sums hE _ _ _ ?_
  | with_reducible assumption
  | (simp only [List.length_tail]; omega)
  | with_reducible refine LeB.okk ?_
theorem le_cons {E : List Tk → R Tr} (hE : ∀ ts : List Tk, ts.length ≤ n → LeB n (E ts)) : ∀ (m : Nat) (ts : List Tk), ts.length ≤ n → LeB n (consB z N E m ts) := by
 intro m
 induction m with
 | zero =>
  intros
  unfold consB
  repeat' first
   | with_reducible exact LeB.err _
   | with_reducible refine LeB.bnd ?_ (fun _ _ _ => ?_)
   | with_reducible refine LeB.iteB ?_ (fun _ _ => ?_) (fun _ _ => ?_)
   | with_reducible refine LeB.ite (fun _ => ?_) (fun _ => ?_)
   | with_reducible refine le_look ?_
   | with_reducible refine le_need ?_
   | with_reducible refine le_kind ?_
   | with_reducible refine le_take ?_
   | with_reducible refine le_named ?_
   | with_reducible assumption
   | (simp only [List.length_tail]; omega)
   | with_reducible refine LeB.okk ?_
 | succ m ih =>
  intros
  unfold consB
  repeat' first
   | with_reducible exact LeB.err _
   | with_reducible refine LeB.bnd ?_ (fun _ _ _ => ?_)
   | with_reducible refine LeB.iteB ?_ (fun _ _ => ?_) (fun _ _ => ?_)
   | with_reducible refine LeB.ite (fun _ => ?_) (fun _ => ?_)
   | with_reducible refine le_look ?_
   | with_reducible refine le_need ?_
   | with_reducible refine le_kind ?_
   | with_reducible refine le_take ?_
   | with_reducible refine le_named ?_
   | with_reducible refine ih _ ?_
   | with_reducible refine ih _ _ ?_
   | with_reducible refine hE _ ?_
   | with_reducible refine le_squares hE _ _ _ ?_
   | with_reducible refine le_square hE _ _ ?_
   | with_reducible refine le_round hE _ _ ?_
   | with_reducible refine le_atom hE _ ?_
   | with_reducible refine le_apps hE _ _ _ ?_
   | with_reducible refine le_app hE _ ?_
   | with_reducible refine le_muls hE _ _ _ ?_
   | with_reducible refine le_mul hE _ ?_
   | with_reducible refine le_sums hE _ _ _ ?_
   | with_reducible refine le_sum hE _ ?_
   | with_reducible assumption
   | (simp only [List.length_tail]; omega)
   | with_reducible refine LeB.okk ?_
theorem le_comp {E : List Tk → R Tr} (hE : ∀ ts : List Tk, ts.length ≤ n → LeB n (E ts)) (ts : List Tk) (h : ts.length ≤ n) : LeB n (compB z N E ts) := by
 unfold compB
 repeat' first
  | with_reducible exact LeB.err _
  | with_reducible refine LeB.bnd ?_ (fun _ _ _ => ?_)
  | with_reducible refine LeB.iteB ?_ (fun _ _ => ?_) (fun _ _ => ?_)
  | with_reducible refine LeB.ite (fun _ => ?_) (fun _ => ?_)
  | with_reducible refine le_look ?_
  | with_reducible refine le_need ?_
  | with_reducible refine le_kind ?_
  | with_reducible refine le_take ?_
  | with_reducible refine le_named ?_
  | with_reducible refine hE _ ?_
  | with_reducible refine le_squares hE _ _ _ ?_
  | with_reducible refine le_square hE _ _ ?_
  | with_reducible refine le_round hE _ _ ?_
  | with_reducible refine le_atom hE _ ?_
  | with_reducible refine le_apps hE _ _ _ ?_
  | with_reducible refine le_app hE _ ?_
  | with_reducible refine le_muls hE _ _ _ ?_
  | with_reducible refine le_mul hE _ ?_
  | with_reducible refine le_sums hE _ _ _ ?_
  | with_reducible refine le_sum hE _ ?_
  | with_reducible refine le_cons hE _ _ ?_
  | with_reducible assumption
  | (simp only [List.length_tail]; omega)
  | with_reducible refine LeB.okk ?_
theorem le_seq {E : List Tk → R Tr} (hE : ∀ ts : List Tk, ts.length ≤ n → LeB n (E ts)) (ts : List Tk) (h : ts.length ≤ n) : LeB n (seqB z N E ts) := by
 unfold seqB
 repeat' first
  | with_reducible exact LeB.err _
  | with_reducible refine LeB.bnd ?_ (fun _ _ _ => ?_)
  | with_reducible refine LeB.iteB ?_ (fun _ _ => ?_) (fun _ _ => ?_)
  | with_reducible refine LeB.ite (fun _ => ?_) (fun _ => ?_)
  | with_reducible refine le_look ?_
  | with_reducible refine le_need ?_
  | with_reducible refine le_kind ?_
  | with_reducible refine le_take ?_
  | with_reducible refine le_named ?_
  | with_reducible refine hE _ ?_
  | with_reducible refine le_squares hE _ _ _ ?_
  | with_reducible refine le_square hE _ _ ?_
  | with_reducible refine le_round hE _ _ ?_
  | with_reducible refine le_atom hE _ ?_
  | with_reducible refine le_apps hE _ _ _ ?_
  | with_reducible refine le_app hE _ ?_
  | with_reducible refine le_muls hE _ _ _ ?_
  | with_reducible refine le_mul hE _ ?_
  | with_reducible refine le_sums hE _ _ _ ?_
  | with_reducible refine le_sum hE _ ?_
  | with_reducible refine le_cons hE _ _ ?_
  | with_reducible refine le_comp hE _ ?_
  | with_reducible assumption
  | (simp only [List.length_tail]; omega)
  | with_reducible refine LeB.okk ?_
theorem le_bind {E : List Tk → R Tr} (hE : ∀ ts : List Tk, ts.length ≤ n → LeB n (E ts)) (least : Nat) (ts : List Tk) (h : ts.length ≤ n) : LeB n (bindB z N E least ts) := by
 unfold bindB
 repeat' first
  | with_reducible exact LeB.err _
  | with_reducible refine LeB.bnd ?_ (fun _ _ _ => ?_)
  | with_reducible refine LeB.iteB ?_ (fun _ _ => ?_) (fun _ _ => ?_)
  | with_reducible refine LeB.ite (fun _ => ?_) (fun _ => ?_)
  | with_reducible refine le_look ?_
  | with_reducible refine le_need ?_
  | with_reducible refine le_kind ?_
  | with_reducible refine le_take ?_
  | with_reducible refine le_named ?_
  | with_reducible refine hE _ ?_
  | with_reducible refine le_squares hE _ _ _ ?_
  | with_reducible refine le_square hE _ _ ?_
  | with_reducible refine le_round hE _ _ ?_
  | with_reducible refine le_atom hE _ ?_
  | with_reducible refine le_apps hE _ _ _ ?_
  | with_reducible refine le_app hE _ ?_
  | with_reducible refine le_muls hE _ _ _ ?_
  | with_reducible refine le_mul hE _ ?_
  | with_reducible refine le_sums hE _ _ _ ?_
  | with_reducible refine le_sum hE _ ?_
  | with_reducible refine le_cons hE _ _ ?_
  | with_reducible refine le_comp hE _ ?_
  | with_reducible refine le_names _ _ _ ?_
  | with_reducible assumption
  | (simp only [List.length_tail]; omega)
  | with_reducible refine LeB.okk ?_
theorem le_let {E : List Tk → R Tr} (hE : ∀ ts : List Tk, ts.length ≤ n → LeB n (E ts)) (ts : List Tk) (h : ts.length ≤ n) : LeB n (letB z N E ts) := by
 unfold letB
 repeat' first
  | with_reducible exact LeB.err _
  | with_reducible refine LeB.bnd ?_ (fun _ _ _ => ?_)
  | with_reducible refine LeB.iteB ?_ (fun _ _ => ?_) (fun _ _ => ?_)
  | with_reducible refine LeB.ite (fun _ => ?_) (fun _ => ?_)
  | with_reducible refine le_look ?_
  | with_reducible refine le_need ?_
  | with_reducible refine le_kind ?_
  | with_reducible refine le_take ?_
  | with_reducible refine le_named ?_
  | with_reducible refine hE _ ?_
  | with_reducible refine le_squares hE _ _ _ ?_
  | with_reducible refine le_square hE _ _ ?_
  | with_reducible refine le_round hE _ _ ?_
  | with_reducible refine le_atom hE _ ?_
  | with_reducible refine le_apps hE _ _ _ ?_
  | with_reducible refine le_app hE _ ?_
  | with_reducible refine le_muls hE _ _ _ ?_
  | with_reducible refine le_mul hE _ ?_
  | with_reducible refine le_sums hE _ _ _ ?_
  | with_reducible refine le_sum hE _ ?_
  | with_reducible refine le_cons hE _ _ ?_
  | with_reducible refine le_comp hE _ ?_
  | with_reducible refine le_names _ _ _ ?_
  | with_reducible refine le_bind hE _ _ ?_
  | with_reducible assumption
  | (simp only [List.length_tail]; omega)
  | with_reducible refine LeB.okk ?_
theorem le_fn {E : List Tk → R Tr} (hE : ∀ ts : List Tk, ts.length ≤ n → LeB n (E ts)) (ts : List Tk) (h : ts.length ≤ n) : LeB n (fnB z N E ts) := by
 unfold fnB
 repeat' first
  | with_reducible exact LeB.err _
  | with_reducible refine LeB.bnd ?_ (fun _ _ _ => ?_)
  | with_reducible refine LeB.iteB ?_ (fun _ _ => ?_) (fun _ _ => ?_)
  | with_reducible refine LeB.ite (fun _ => ?_) (fun _ => ?_)
  | with_reducible refine le_look ?_
  | with_reducible refine le_need ?_
  | with_reducible refine le_kind ?_
  | with_reducible refine le_take ?_
  | with_reducible refine le_named ?_
  | with_reducible refine hE _ ?_
  | with_reducible refine le_squares hE _ _ _ ?_
  | with_reducible refine le_square hE _ _ ?_
  | with_reducible refine le_round hE _ _ ?_
  | with_reducible refine le_atom hE _ ?_
  | with_reducible refine le_apps hE _ _ _ ?_
  | with_reducible refine le_app hE _ ?_
  | with_reducible refine le_muls hE _ _ _ ?_
  | with_reducible refine le_mul hE _ ?_
  | with_reducible refine le_sums hE _ _ _ ?_
  | with_reducible refine le_sum hE _ ?_
  | with_reducible refine le_cons hE _ _ ?_
  | with_reducible refine le_comp hE _ ?_
  | with_reducible refine le_names _ _ _ ?_
  | with_reducible refine le_bind hE _ _ ?_
  | with_reducible assumption
  | (simp only [List.length_tail]; omega)
  | with_reducible refine LeB.okk ?_
theorem le_if {E : List Tk → R Tr} (hE : ∀ ts : List Tk, ts.length ≤ n → LeB n (E ts)) (ts : List Tk) (h : ts.length ≤ n) : LeB n (ifB z E ts) := by
 unfold ifB
 repeat' first
  | with_reducible exact LeB.err _
  | with_reducible refine LeB.bnd ?_ (fun _ _ _ => ?_)
  | with_reducible refine LeB.iteB ?_ (fun _ _ => ?_) (fun _ _ => ?_)
  | with_reducible refine LeB.ite (fun _ => ?_) (fun _ => ?_)
  | with_reducible refine le_look ?_
  | with_reducible refine le_need ?_
  | with_reducible refine le_kind ?_
  | with_reducible refine le_take ?_
  | with_reducible refine le_named ?_
  | with_reducible refine hE _ ?_
  | with_reducible refine le_squares hE _ _ _ ?_
  | with_reducible refine le_square hE _ _ ?_
  | with_reducible refine le_round hE _ _ ?_
  | with_reducible refine le_atom hE _ ?_
  | with_reducible refine le_apps hE _ _ _ ?_
  | with_reducible refine le_app hE _ ?_
  | with_reducible refine le_muls hE _ _ _ ?_
  | with_reducible refine le_mul hE _ ?_
  | with_reducible refine le_sums hE _ _ _ ?_
  | with_reducible refine le_sum hE _ ?_
  | with_reducible refine le_cons hE _ _ ?_
  | with_reducible refine le_comp hE _ ?_
  | with_reducible refine le_names _ _ _ ?_
  | with_reducible refine le_bind hE _ _ ?_
  | with_reducible assumption
  | (simp only [List.length_tail]; omega)
  | with_reducible refine LeB.okk ?_
theorem le_cases {E : List Tk → R Tr} (hE : ∀ ts : List Tk, ts.length ≤ n → LeB n (E ts)) (ts : List Tk) (h : ts.length ≤ n) : LeB n (casesB z E ts) := by
 unfold casesB
 repeat' first
  | with_reducible exact LeB.err _
  | with_reducible refine LeB.bnd ?_ (fun _ _ _ => ?_)
  | with_reducible refine LeB.iteB ?_ (fun _ _ => ?_) (fun _ _ => ?_)
  | with_reducible refine LeB.ite (fun _ => ?_) (fun _ => ?_)
  | with_reducible refine le_look ?_
  | with_reducible refine le_need ?_
  | with_reducible refine le_kind ?_
  | with_reducible refine le_take ?_
  | with_reducible refine le_named ?_
  | with_reducible refine hE _ ?_
  | with_reducible refine le_squares hE _ _ _ ?_
  | with_reducible refine le_square hE _ _ ?_
  | with_reducible refine le_round hE _ _ ?_
  | with_reducible refine le_atom hE _ ?_
  | with_reducible refine le_apps hE _ _ _ ?_
  | with_reducible refine le_app hE _ ?_
  | with_reducible refine le_muls hE _ _ _ ?_
  | with_reducible refine le_mul hE _ ?_
  | with_reducible refine le_sums hE _ _ _ ?_
  | with_reducible refine le_sum hE _ ?_
  | with_reducible refine le_cons hE _ _ ?_
  | with_reducible refine le_comp hE _ ?_
  | with_reducible refine le_names _ _ _ ?_
  | with_reducible refine le_bind hE _ _ ?_
  | with_reducible assumption
  | (simp only [List.length_tail]; omega)
  | with_reducible refine LeB.okk ?_
theorem le_ret {E : List Tk → R Tr} (hE : ∀ ts : List Tk, ts.length ≤ n → LeB n (E ts)) (ts : List Tk) (h : ts.length ≤ n) : LeB n (retB z E ts) := by
 unfold retB
 repeat' first
  | with_reducible exact LeB.err _
  | with_reducible refine LeB.bnd ?_ (fun _ _ _ => ?_)
  | with_reducible refine LeB.iteB ?_ (fun _ _ => ?_) (fun _ _ => ?_)
  | with_reducible refine LeB.ite (fun _ => ?_) (fun _ => ?_)
  | with_reducible refine le_look ?_
  | with_reducible refine le_need ?_
  | with_reducible refine le_kind ?_
  | with_reducible refine le_take ?_
  | with_reducible refine le_named ?_
  | with_reducible refine hE _ ?_
  | with_reducible refine le_squares hE _ _ _ ?_
  | with_reducible refine le_square hE _ _ ?_
  | with_reducible refine le_round hE _ _ ?_
  | with_reducible refine le_atom hE _ ?_
  | with_reducible refine le_apps hE _ _ _ ?_
  | with_reducible refine le_app hE _ ?_
  | with_reducible refine le_muls hE _ _ _ ?_
  | with_reducible refine le_mul hE _ ?_
  | with_reducible refine le_sums hE _ _ _ ?_
  | with_reducible refine le_sum hE _ ?_
  | with_reducible refine le_cons hE _ _ ?_
  | with_reducible refine le_comp hE _ ?_
  | with_reducible refine le_names _ _ _ ?_
  | with_reducible refine le_bind hE _ _ ?_
  | with_reducible assumption
  | (simp only [List.length_tail]; omega)
  | with_reducible refine LeB.okk ?_
theorem le_clause {E : List Tk → R Tr} (hE : ∀ ts : List Tk, ts.length ≤ n → LeB n (E ts)) (ts : List Tk) (h : ts.length ≤ n) : LeB n (clauseB z E ts) := by
 unfold clauseB
 repeat' first
  | with_reducible exact LeB.err _
  | with_reducible refine LeB.bnd ?_ (fun _ _ _ => ?_)
  | with_reducible refine LeB.iteB ?_ (fun _ _ => ?_) (fun _ _ => ?_)
  | with_reducible refine LeB.ite (fun _ => ?_) (fun _ => ?_)
  | with_reducible refine le_look ?_
  | with_reducible refine le_need ?_
  | with_reducible refine le_kind ?_
  | with_reducible refine le_take ?_
  | with_reducible refine le_named ?_
  | with_reducible refine hE _ ?_
  | with_reducible refine le_squares hE _ _ _ ?_
  | with_reducible refine le_square hE _ _ ?_
  | with_reducible refine le_round hE _ _ ?_
  | with_reducible refine le_atom hE _ ?_
  | with_reducible refine le_apps hE _ _ _ ?_
  | with_reducible refine le_app hE _ ?_
  | with_reducible refine le_muls hE _ _ _ ?_
  | with_reducible refine le_mul hE _ ?_
  | with_reducible refine le_sums hE _ _ _ ?_
  | with_reducible refine le_sum hE _ ?_
  | with_reducible refine le_cons hE _ _ ?_
  | with_reducible refine le_comp hE _ ?_
  | with_reducible refine le_names _ _ _ ?_
  | with_reducible refine le_bind hE _ _ ?_
  | with_reducible assumption
  | (simp only [List.length_tail]; omega)
  | with_reducible refine LeB.okk ?_
theorem le_clauses {E : List Tk → R Tr} (hE : ∀ ts : List Tk, ts.length ≤ n → LeB n (E ts)) : ∀ (m : Nat) (l : List Tr) (ts : List Tk), ts.length ≤ n → LeB n (clausesB z E m l ts) := by
 intro m
 induction m with
 | zero =>
  intros
  unfold clausesB
  repeat' first
   | with_reducible exact LeB.err _
   | with_reducible refine LeB.bnd ?_ (fun _ _ _ => ?_)
   | with_reducible refine LeB.iteB ?_ (fun _ _ => ?_) (fun _ _ => ?_)
   | with_reducible refine LeB.ite (fun _ => ?_) (fun _ => ?_)
   | with_reducible refine le_look ?_
   | with_reducible refine le_need ?_
   | with_reducible refine le_kind ?_
   | with_reducible refine le_take ?_
   | with_reducible refine le_named ?_
   | with_reducible assumption
   | (simp only [List.length_tail]; omega)
   | with_reducible refine LeB.okk ?_
 | succ m ih =>
  intros
  unfold clausesB
  repeat' first
   | with_reducible exact LeB.err _
   | with_reducible refine LeB.bnd ?_ (fun _ _ _ => ?_)
   | with_reducible refine LeB.iteB ?_ (fun _ _ => ?_) (fun _ _ => ?_)
   | with_reducible refine LeB.ite (fun _ => ?_) (fun _ => ?_)
   | with_reducible refine le_look ?_
   | with_reducible refine le_need ?_
   | with_reducible refine le_kind ?_
   | with_reducible refine le_take ?_
   | with_reducible refine le_named ?_
   | with_reducible refine ih _ ?_
   | with_reducible refine ih _ _ ?_
   | with_reducible refine hE _ ?_
   | with_reducible refine le_squares hE _ _ _ ?_
   | with_reducible refine le_square hE _ _ ?_
   | with_reducible refine le_round hE _ _ ?_
   | with_reducible refine le_atom hE _ ?_
   | with_reducible refine le_apps hE _ _ _ ?_
   | with_reducible refine le_app hE _ ?_
   | with_reducible refine le_muls hE _ _ _ ?_
   | with_reducible refine le_mul hE _ ?_
   | with_reducible refine le_sums hE _ _ _ ?_
   | with_reducible refine le_sum hE _ ?_
   | with_reducible refine le_cons hE _ _ ?_
   | with_reducible refine le_comp hE _ ?_
   | with_reducible refine le_names _ _ _ ?_
   | with_reducible refine le_bind hE _ _ ?_
   | with_reducible refine le_ret hE _ ?_
   | with_reducible refine le_clause hE _ ?_
   | with_reducible assumption
   | (simp only [List.length_tail]; omega)
   | with_reducible refine LeB.okk ?_
theorem le_handle {E : List Tk → R Tr} (hE : ∀ ts : List Tk, ts.length ≤ n → LeB n (E ts)) (ts : List Tk) (h : ts.length ≤ n) : LeB n (handleB z N E ts) := by
 unfold handleB
 repeat' first
  | with_reducible exact LeB.err _
  | with_reducible refine LeB.bnd ?_ (fun _ _ _ => ?_)
  | with_reducible refine LeB.iteB ?_ (fun _ _ => ?_) (fun _ _ => ?_)
  | with_reducible refine LeB.ite (fun _ => ?_) (fun _ => ?_)
  | with_reducible refine le_look ?_
  | with_reducible refine le_need ?_
  | with_reducible refine le_kind ?_
  | with_reducible refine le_take ?_
  | with_reducible refine le_named ?_
  | with_reducible refine hE _ ?_
  | with_reducible refine le_squares hE _ _ _ ?_
  | with_reducible refine le_square hE _ _ ?_
  | with_reducible refine le_round hE _ _ ?_
  | with_reducible refine le_atom hE _ ?_
  | with_reducible refine le_apps hE _ _ _ ?_
  | with_reducible refine le_app hE _ ?_
  | with_reducible refine le_muls hE _ _ _ ?_
  | with_reducible refine le_mul hE _ ?_
  | with_reducible refine le_sums hE _ _ _ ?_
  | with_reducible refine le_sum hE _ ?_
  | with_reducible refine le_cons hE _ _ ?_
  | with_reducible refine le_comp hE _ ?_
  | with_reducible refine le_names _ _ _ ?_
  | with_reducible refine le_bind hE _ _ ?_
  | with_reducible refine le_ret hE _ ?_
  | with_reducible refine le_clause hE _ ?_
  | with_reducible refine le_clauses hE _ _ _ ?_
  | with_reducible assumption
  | (simp only [List.length_tail]; omega)
  | with_reducible refine LeB.okk ?_
theorem le_any {E : List Tk → R Tr} (hE : ∀ ts : List Tk, ts.length ≤ n → LeB n (E ts)) (ts : List Tk) (h : ts.length ≤ n) : LeB n (anyB z N E ts) := by
 unfold anyB
 repeat' first
  | with_reducible exact LeB.err _
  | with_reducible refine LeB.bnd ?_ (fun _ _ _ => ?_)
  | with_reducible refine LeB.iteB ?_ (fun _ _ => ?_) (fun _ _ => ?_)
  | with_reducible refine LeB.ite (fun _ => ?_) (fun _ => ?_)
  | with_reducible refine le_look ?_
  | with_reducible refine le_need ?_
  | with_reducible refine le_kind ?_
  | with_reducible refine le_take ?_
  | with_reducible refine le_named ?_
  | with_reducible refine hE _ ?_
  | with_reducible refine le_squares hE _ _ _ ?_
  | with_reducible refine le_square hE _ _ ?_
  | with_reducible refine le_round hE _ _ ?_
  | with_reducible refine le_atom hE _ ?_
  | with_reducible refine le_apps hE _ _ _ ?_
  | with_reducible refine le_app hE _ ?_
  | with_reducible refine le_muls hE _ _ _ ?_
  | with_reducible refine le_mul hE _ ?_
  | with_reducible refine le_sums hE _ _ _ ?_
  | with_reducible refine le_sum hE _ ?_
  | with_reducible refine le_cons hE _ _ ?_
  | with_reducible refine le_comp hE _ ?_
  | with_reducible refine le_names _ _ _ ?_
  | with_reducible refine le_bind hE _ _ ?_
  | with_reducible refine le_ret hE _ ?_
  | with_reducible refine le_clause hE _ ?_
  | with_reducible refine le_clauses hE _ _ _ ?_
  | with_reducible refine le_let hE _ ?_
  | with_reducible refine le_fn hE _ ?_
  | with_reducible refine le_if hE _ ?_
  | with_reducible refine le_cases hE _ ?_
  | with_reducible refine le_handle hE _ ?_
  | with_reducible refine le_seq hE _ ?_
  | with_reducible assumption
  | (simp only [List.length_tail]; omega)
  | with_reducible refine LeB.okk ?_
theorem le_expr : ∀ (k : Nat) (ts : List Tk), ts.length ≤ n → LeB n (exprB z N k ts) := by
 intro k
 induction k with
 | zero => intro ts h; unfold exprB; exact LeB.bnd (le_look h) fun _ _ _ => LeB.err _
 | succ k ih => intro ts h; unfold exprB; exact LeB.bnd (le_look h) fun _ _ _ => le_any ih _ h
end

open Go.RowKit

structure EOK (N e d : Nat) (z : Sy.Env) (E : List Lx.Tk → Sy.R Sy.Tr) : Prop where
 le : ∀ (n : Nat) (ts : List Lx.Tk), ts.length ≤ n → LeB n (E ts)
 calls : ∀ (w : World) (b : Nat) (ts : List Lx.Tk), Dr w b z ts e d → ts.length < N → Calls Tryz.prog 34 #[.pointer (some ⟨b, 0, none⟩)] w fun en w' => DRes w b z (E ts) e d en w'
theorem Vr.drew {W : World} {A lo : Nat} {T : Sy.Tr} {a : Option Addr} {l c : Nat} (h : Vr W A lo T a l c) : Vr W.drew A lo T a l c := h.same rfl
theorem Kids.drew {W : World} {F : Nat → Prop} {v : Value} {l : List Sy.Tr} (h : Kids W F v l) : Kids W.drew F v l := h.carry (fun _ _ _ => rfl) (fun _ h _ => h)
theorem Blk.drew {W : World} {A : Nat} {vs : List Value} (h : Blk W A vs) : Blk W.drew A vs := h.of_heap rfl
def ROK (fn N e d : Nat) (z : Sy.Env) (F : List Lx.Tk → Sy.R Sy.Tr) : Prop := ∀ (w : World) (b : Nat) (ts : List Lx.Tk), Dr w b z ts e d → ts.length < N → Calls Tryz.prog fn #[.pointer (some ⟨b, 0, none⟩)] w fun en w' => DRes w b z (F ts) e d en w'

theorem dsequence (N e d : Nat) (z : Sy.Env) (E : List Lx.Tk → Sy.R Sy.Tr) (hE : EOK N e d z E) (hC : ROK 107 N e d z (Sy.compB z N E)) : ROK 70 N e d z (Sy.seqB z N E) := by
 intro w b ts h hn
 have H := hid h
 have hbR : b < w.heap.size := h.lt
 clear h
 go_enter Tryz.func70, Tryz.ntmps70
 go_wp2_with fail
 obtain ⟨W0, hW0, HI⟩ := jn1 H.out 24
 rw [hW0]
 clear hW0
 have hz0 := HI.out.size
 refine (hC _ b ts (by repeat (with_reducible (first | exact HI.out.rd | apply Dr.drew))) hn).mono ?_
 intro en w1 HD
 rcases hx1 : Sy.compB z N E ts with f1 | ⟨y1, ts1⟩
 ·obtain ⟨rfl, HK1⟩ := HD.no hx1
  have HKE := hid ((show Kp b w _ by repeat (with_reducible (first | exact HI.out.kp | apply Kp.drew))).trans HK1.out)
  go_wp2_with fail
  exact ⟨rfl, DRes.err (by simp [Sy.seqB, Sy.iteB_takes, Sy.bnd, hx1]) HKE.out⟩
 have H1 := hid hx1
 have hn1 : ts1.length < N := Nat.lt_of_le_of_lt (le_comp (fun ts h => hE.le _ ts h) _ (Nat.le_refl _) _ _ hx1) hn
 obtain ⟨a1, l1, c1, rfl, HKd1, HR1, HK1⟩ := HD.yes hx1
 clear hx1 HD
 obtain ⟨W1, hW1, HV1, HRd1, HKp1, hs1, ht1⟩ := jvar_new HKd1.out HR1.out HK1.out 24
 have HRS1 := hid ((show Blk _ w.heap.size [_, _, _, _, _] by repeat (with_reducible (first | exact HI.out.one | apply Blk.drew))).kp HKp1.out (by omega))
 have HKA1 := hid ((show Kp b w _ by repeat (with_reducible (first | exact HI.out.kp | apply Kp.drew))).trans HKp1.out)
 have hne1 : ¬ w1.heap.size = w.heap.size := by omega
 have hno1 : ¬ w.heap.size = w1.heap.size := by omega
 go_wp2_with fail
 try rw [hW1]
 clear hW1
 refine (dtakes _ b z ts1 e d Sy.s_semi (by decide) (by repeat (with_reducible (first | exact HRd1.out | apply Dr.drew)))).mono ?_
 intro en w2 HD
 rcases hx2 : Sy.takesB z Sy.s_semi ts1 with f2 | ⟨v2, ts2⟩
 ·obtain ⟨rfl, HK2⟩ := HD.no hx2
  have HKE := hid ((show Kp b w _ by repeat (with_reducible (first | exact HKA1.out | apply Kp.drew))).trans HK2.out)
  go_wp2_with fail
  exact ⟨rfl, DRes.err (by simp [Sy.seqB, Sy.iteB_takes, Sy.bnd, H1.out, hx2]) HKE.out⟩
 have H2 := hid hx2
 have hn2 : ts2.length < N := Nat.lt_of_le_of_lt (le_takes (Nat.le_refl _) _ _ hx2) hn1
 obtain ⟨rfl, HR2, HK2⟩ := HD.yes hx2
 clear hx2 HD
 have ht2 := HK2.out.size
 have HV1_2 := hid ((show Vr _ w1.heap.size W0.heap.size y1 a1 l1 c1 by repeat (with_reducible (first | exact HV1.out | apply Vr.drew))).kp HK2.out (by omega) (by omega))
 have HRS2 := hid ((show Blk _ w.heap.size [_, _, _, _, _] by repeat (with_reducible (first | exact HRS1.out | apply Blk.drew))).kp HK2.out (by omega))
 have HKA2 := hid ((show Kp b w _ by repeat (with_reducible (first | exact HKA1.out | apply Kp.drew))).trans HK2.out)
 cases v2 with
 | false =>
  obtain ⟨⟨q1_0, q1_1, q1_2, q1_3, q1_4⟩, q1_5, q1_6, q1_7, q1_8, q1_9⟩ := blk5 HV1_2.out.cells
  obtain ⟨⟨u2_0, u2_1, u2_2, u2_3, u2_4⟩, u2_5, u2_6, u2_7, u2_8, u2_9⟩ := blk5 HRS2.out
  go_wp2_with fail
  refine bodyPost_ret (v := .agg #[.int .i64 y1.kind, .int .i64 y1.pos, .string ⟨y1.name.toArray⟩, .int .i64 y1.num, .slice a1 l1 c1]) (by simp [results, Tryz.results70, go_sem, u2_0, u2_1, u2_2, u2_3, u2_4]) rfl ?_
  exact dres_fin (lo := W0.heap.size) y1 ts2 (HV1_2.out.kids.free (by omega)) HR2.out HKA2.out (by simp [Sy.seqB, Sy.iteB_takes, Sy.bnd, H1.out, H2.out]) (by omega) (by omega) (by omega) _ _ _ _ rfl rfl rfl rfl _ _ _ _ _
 | true =>
  obtain ⟨⟨q1_0, q1_1, q1_2, q1_3, q1_4⟩, q1_5, q1_6, q1_7, q1_8, q1_9⟩ := blk5 HV1_2.out.cells
  obtain ⟨⟨u2_0, u2_1, u2_2, u2_3, u2_4⟩, u2_5, u2_6, u2_7, u2_8, u2_9⟩ := blk5 HRS2.out
  go_wp2_with fail
  rcases hx3 : E ts2 with f3 | ⟨y3, ts3⟩
  ·skip
   refine wp_region_held_drew (S := (fun w' => w'.cell? ⟨w1.heap.size, 0, none⟩ = some (.int .i64 y1.kind) ∧ w'.cell? ⟨w1.heap.size, 1, none⟩ = some (.int .i64 y1.pos) ∧ w'.cell? ⟨w1.heap.size, 2, none⟩ = some (.string ⟨y1.name.toArray⟩) ∧ w'.cell? ⟨w1.heap.size, 3, none⟩ = some (.int .i64 y1.num) ∧ w'.cell? ⟨w1.heap.size, 4, none⟩ = some (.slice a1 l1 c1))) (by kernel_rfl) (by first | trivial | (dsimp only; go_keep)) (fun hHeld => ?_)
   refine wpAnyH_take (i := 0) (v := ?vv0) rfl (by kernel_rfl) (by kernel_rfl) (by kernel_rfl) (fun _ _ _ h => h) (Or.inl ⟨by rfl, ?yy0⟩) (by assumption) ?rr0
   case yy0 => (intro w hSw; (try dsimp only at hSw); go_simp; (try with_reducible rfl))
   try simp only [Act.put, List.setIfInBounds_toArray, List.set_cons_zero, List.set_cons_succ]
   refine wpAnyH_take (i := 1) (v := ?vv1) rfl (by kernel_rfl) (by kernel_rfl) (by kernel_rfl) (fun _ _ _ h => h) (Or.inl ⟨by rfl, ?yy1⟩) (by assumption) ?rr1
   case yy1 => (intro w hSw; (try dsimp only at hSw); go_simp; (try with_reducible rfl))
   try simp only [Act.put, List.setIfInBounds_toArray, List.set_cons_zero, List.set_cons_succ]
   refine wpAnyH_ready (rs := [2]) (by kernel_rfl) (by simp) (AllReadyH.cons rfl (fun K hK => ?_) AllReadyH.nil)
   go_simp
   refine (hE.calls _ b ts2 (by repeat (with_reducible (first | exact HR2.out | apply Dr.drew))) hn2).mono ?_
   intro en w3 HD
   obtain ⟨rfl, HK3⟩ := HD.no hx3
   have HKE := hid ((show Kp b w _ by repeat (with_reducible (first | exact HKA2.out | apply Kp.drew))).trans HK3.out)
   exact ⟨rfl, DRes.err (by simp [Sy.seqB, Sy.iteB_takes, Sy.bnd, H1.out, H2.out, hx3]) HKE.out⟩
  have H3 := hid hx3
  clear hx3
  go_region_held3 (fun w' => w'.cell? ⟨w1.heap.size, 0, none⟩ = some (.int .i64 y1.kind) ∧ w'.cell? ⟨w1.heap.size, 1, none⟩ = some (.int .i64 y1.pos) ∧ w'.cell? ⟨w1.heap.size, 2, none⟩ = some (.string ⟨y1.name.toArray⟩) ∧ w'.cell? ⟨w1.heap.size, 3, none⟩ = some (.int .i64 y1.num) ∧ w'.cell? ⟨w1.heap.size, 4, none⟩ = some (.slice a1 l1 c1)) (go_keep) (first
   | (go_at_call 34; refine (hE.calls _ b ts2 (by repeat (with_reducible (first | exact HR2.out | apply Dr.drew))) hn2).mono ?_; intro en w3 HD; obtain ⟨a3, l3, c3, rfl, HKd3, HR3, HK3⟩ := HD.yes H3.out; have ht3 := HK3.out.size; (try simp at ht3); have HV1_3 := hid ((show Vr _ w1.heap.size W0.heap.size y1 a1 l1 c1 by repeat (with_reducible (first | exact HV1_2.out | apply Vr.drew))).kp HK3.out (by omega) (by omega)); obtain ⟨⟨q3_0, q3_1, q3_2, q3_3, q3_4⟩, q3_5, q3_6, q3_7, q3_8, q3_9⟩ := blk5 HV1_3.out.cells; have HRS3 := hid ((show Blk _ w.heap.size [_, _, _, _, _] by repeat (with_reducible (first | exact HRS2.out | apply Blk.drew))).kp HK3.out (by omega)); have HKA3 := hid ((show Kp b w _ by repeat (with_reducible (first | exact HKA2.out | apply Kp.drew))).trans HK3.out); obtain ⟨⟨u4_0, u4_1, u4_2, u4_3, u4_4⟩, u4_5, u4_6, u4_7, u4_8, u4_9⟩ := blk5 HRS3.out; have HY3 : Hid (Kids w3 (fun g => w2.heap.size ≤ g) (.slice a3 l3 c3) y3.kids) := HKd3.out.weak (fun g hg _ => by (try simp at hg); omega))
   | (go_at_call 108; have HA4 := hid (HV1_3.out.kids.free (hi := W0.heap.size) (by omega)); have HC4 : Hid (Kids _ (fun g => W0.heap.size ≤ g) (.slice a3 l3 c3) y3.kids) := HY3.out.weak (fun g hg _ => Nat.le_trans (by omega) hg); refine (djoined _ (fun g => W0.heap.size ≤ g) 10 y1 y3 [] a1 a3 l1 c1 l3 c3 (fun g hg => by (try simp at hg); omega) (by repeat (with_reducible (first | exact HA4.out | apply Kids.drew))) (by repeat (with_reducible (first | exact HC4.out | apply Kids.drew)))).mono ?_; rintro en w4 ⟨g4, rfl, HN4, HB4⟩; have ht4 := HB4.out.size; (try simp at ht4); have HV1_4 := hid ((show Vr _ w1.heap.size W0.heap.size y1 a1 l1 c1 by repeat (with_reducible (first | exact HV1_3.out | apply Vr.drew))).past HB4.out); obtain ⟨⟨q5_0, q5_1, q5_2, q5_3, q5_4⟩, q5_5, q5_6, q5_7, q5_8, q5_9⟩ := blk5 HV1_4.out.cells; have HRS4 := hid ((show Blk _ w.heap.size [_, _, _, _, _] by repeat (with_reducible (first | exact HRS3.out | apply Blk.drew))).past HB4.out); have HKA4 := hid ((show Kp b w _ by repeat (with_reducible (first | exact HKA3.out | apply Kp.drew))).below HB4.out); obtain ⟨⟨u6_0, u6_1, u6_2, u6_3, u6_4⟩, u6_5, u6_6, u6_7, u6_8, u6_9⟩ := blk5 HRS4.out; have HR4 := hid ((show Dr _ b z ts3 e d by repeat (with_reducible (first | exact HR3.out | apply Dr.drew))).below HB4.out)))
  all_goals go_wp2_with fail
  obtain ⟨⟨u7_0, u7_1, u7_2, u7_3, u7_4⟩, u7_5, u7_6, u7_7, u7_8, u7_9⟩ := blk5 HRS4.out
  refine bodyPost_ret (v := .agg #[.int .i64 10, .int .i64 y1.pos, .string ⟨([] : List UInt8).toArray⟩, .int .i64 0, .slice (some ⟨g4, 0, none⟩) 2 2]) (by simp [results, Tryz.results70, go_sem, u7_0, u7_1, u7_2, u7_3, u7_4]) rfl ?_
  exact dres_fin (lo := W0.heap.size) (Sy.nd 10 y1.pos [y1, y3]) ts3 HN4.out HR4.out HKA4.out (by simp [Sy.seqB, Sy.iteB_takes, Sy.bnd, H1.out, H2.out, H3.out]) (by omega) (by omega) (by omega) _ _ _ _ rfl rfl rfl rfl _ _ _ _ _
end Go.Proofs.YtoajnlhegallpaaGreatDoor
