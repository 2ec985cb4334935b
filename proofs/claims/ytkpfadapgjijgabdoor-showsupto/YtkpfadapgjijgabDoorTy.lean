/-
  Proper types, and how one is written, said by plain functions; no program is named here.
-/
import Derived.WalkKit
namespace Go.Proofs.YtkpfadapgjijgabDoor
namespace Ty

inductive P where
  | var (n : Nat)
  | int
  | bool
  | unit
  | list (a : P)
  | pair (a b : P)
  | fn (a b : P) (ops : List (List UInt8)) (row : Nat)

def P.kind : P → Nat
  | .var _ => 0
  | .int => 1
  | .bool => 2
  | .unit => 3
  | .list _ => 4
  | .pair _ _ => 5
  | .fn _ _ _ _ => 6
def P.num : P → Nat
  | .var n => n
  | _ => 0
def P.row : P → Nat
  | .fn _ _ _ r => r
  | _ => 0
def P.ops : P → List (List UInt8)
  | .fn _ _ o _ => o
  | _ => []
def P.parts : P → Nat
  | .list a => 1 + a.parts
  | .pair a b => 1 + a.parts + b.parts
  | .fn a b o _ => 1 + o.length + a.parts + b.parts
  | _ => 1

/-- Names in the order of their bytes. -/
def inOrder : List (List UInt8) → Prop
  | x :: y :: r => ¬ y < x ∧ inOrder (y :: r)
  | _ => True

/-- All else that a proper type keeps to; no name is longer than a bound. -/
def P.ok : P → Prop
  | .var n => 1 ≤ n ∧ n ≤ 1000000000
  | .list a => a.ok
  | .pair a b => a.ok ∧ b.ok
  | .fn a b o r => a.ok ∧ b.ok ∧ r ≤ 1000000000 ∧ (∀ x ∈ o, x ≠ [] ∧ x.length ≤ 1048576) ∧ inOrder o
  | _ => True

theorem P.parts_pos (t : P) : 1 ≤ t.parts := by
  cases t <;> simp [P.parts] <;> omega

/-- A number's digits. -/
def dig (n : Nat) : List UInt8 := if h : n < 10 then [(48 + n).toUInt8] else dig (n / 10) ++ [(48 + n % 10).toUInt8]
termination_by n

def joinC : List (List UInt8) → List UInt8
  | [] => []
  | [x] => x
  | x :: y :: r => x ++ 44 :: 32 :: joinC (y :: r)
def barT (j : List UInt8) (row : Nat) : List UInt8 := if row = 0 then j else (if j = [] then [] else j ++ [32]) ++ 124 :: 32 :: 114 :: dig row
def rowT (o : List (List UInt8)) (row : Nat) : List UInt8 := barT (joinC o) row
def wrapT (x : List UInt8) : List UInt8 := if x = [] then [32, 45, 62, 32] else [32, 45, 123] ++ x ++ [125, 45, 62, 32]
def arrowT (o : List (List UInt8)) (row : Nat) : List UInt8 := wrapT (rowT o row)
def varT (n : Nat) : List UInt8 := if n ≤ 26 then [(96 + n).toUInt8] else 97 :: dig n
def P.level : P → Nat
  | .fn _ _ _ _ => 0
  | .pair _ _ => 1
  | .list _ => 2
  | _ => 3
def br (t : P) (least : Nat) (x : List UInt8) : List UInt8 := if t.level < least then 40 :: x ++ [41] else x
def tInt : List UInt8 := [105, 110, 116]
def tBool : List UInt8 := [98, 111, 111, 108]
def tUnit : List UInt8 := [117, 110, 105, 116]
def tList : List UInt8 := [32, 108, 105, 115, 116]
def tStar : List UInt8 := [32, 42, 32]
def P.text : P → List UInt8
  | .var n => varT n
  | .int => tInt
  | .bool => tBool
  | .unit => tUnit
  | .list a => br a 2 a.text ++ tList
  | .pair a b => br a 2 a.text ++ tStar ++ br b 1 b.text
  | .fn a b o r => br a 1 a.text ++ arrowT o r ++ br b 0 b.text

theorem dig_len : ∀ (k n : Nat), n < 10 ^ (k + 1) → (dig n).length ≤ k + 1 := by
  intro k
  induction k with
  | zero => intro n h; rw [dig, dif_pos (by simpa using h)]; simp
  | succ k ih =>
    intro n h
    rw [dig]
    by_cases h1 : n < 10
    · rw [dif_pos h1]; simp
    · rw [dif_neg h1]
      have := ih (n / 10) (by rw [Nat.pow_succ] at h; omega)
      simp; omega
theorem dig_small {n : Nat} (h : n ≤ 1000000000) : (dig n).length ≤ 10 := dig_len 9 n (by omega)
theorem dig_ne (n : Nat) : dig n ≠ [] := by
  rw [dig]
  split <;> simp
theorem br_len (t : P) (k : Nat) (x : List UInt8) : (br t k x).length ≤ x.length + 2 := by
  unfold br; split <;> simp
theorem joinC_len : ∀ (o : List (List UInt8)), (∀ x ∈ o, x.length ≤ 1048576) → (joinC o).length ≤ o.length * 1048578 := by
  intro o
  induction o with
  | nil => intro _; simp [joinC]
  | cons x r ih =>
    intro h
    have hx := h x (by simp)
    have hr := ih (fun y hy => h y (by simp [hy]))
    cases r with
    | nil => simp [joinC]; omega
    | cons y r => simp [joinC] at hr ⊢; omega
theorem barT_len (j : List UInt8) (row : Nat) (h : row ≤ 1000000000) : (barT j row).length ≤ j.length + 14 := by
  have := dig_small h
  unfold barT
  split
  · omega
  · split <;> simp <;> omega
theorem wrapT_len (x : List UInt8) : (wrapT x).length ≤ x.length + 7 := by
  unfold wrapT; split <;> simp
theorem arrowT_len (o : List (List UInt8)) (r : Nat) (h : ∀ x ∈ o, x.length ≤ 1048576) (hr : r ≤ 1000000000) : (arrowT o r).length ≤ o.length * 1048578 + 21 := by
  have h1 := wrapT_len (rowT o r)
  have h2 := barT_len (joinC o) r hr
  have h3 := joinC_len o h
  unfold arrowT rowT at *
  omega
theorem P.text_len : ∀ (t : P), t.ok → t.text.length ≤ t.parts * 1048700 := by
  intro t
  induction t with
  | var n =>
    intro h
    have := dig_small h.2
    simp only [P.text, P.parts, varT]
    split <;> simp <;> omega
  | int => intro _; simp [P.text, P.parts, tInt]
  | bool => intro _; simp [P.text, P.parts, tBool]
  | unit => intro _; simp [P.text, P.parts, tUnit]
  | list a ih =>
    intro h
    have h1 := ih h
    have h2 := br_len a 2 a.text
    simp only [P.text, P.parts, List.length_append, tList]
    simp only [List.length_cons, List.length_nil]
    omega
  | pair a b iha ihb =>
    intro h
    have h1 := iha h.1
    have h2 := ihb h.2
    have h3 := br_len a 2 a.text
    have h4 := br_len b 1 b.text
    simp only [P.text, P.parts, List.length_append, tStar, List.length_cons, List.length_nil]
    omega
  | fn a b o r iha ihb =>
    intro h
    obtain ⟨ha, hb, hr, ho, _⟩ := h
    have h1 := iha ha
    have h2 := ihb hb
    have h3 := br_len a 1 a.text
    have h4 := br_len b 0 b.text
    have h5 := arrowT_len o r (fun x hx => (ho x hx).2) hr
    simp only [P.text, P.parts, List.length_append]
    omega

theorem joinC_snoc : ∀ (o : List (List UInt8)) (x : List UInt8), joinC (o ++ [x]) = (if o = [] then [] else joinC o ++ [44, 32]) ++ x := by
  intro o
  induction o with
  | nil => intro x; simp [joinC]
  | cons y r ih =>
    intro x
    cases r with
    | nil => simp [joinC]
    | cons z r =>
      have := ih x
      simp [joinC] at this ⊢
      exact this
theorem joinC_ne {o : List (List UInt8)} (h : ∀ x ∈ o, x ≠ []) (h0 : o ≠ []) : joinC o ≠ [] := by
  match o, h0 with
  | [x], _ => simpa [joinC] using h x (by simp)
  | x :: y :: r, _ => simp [joinC]
end Ty
end Go.Proofs.YtkpfadapgjijgabDoor
