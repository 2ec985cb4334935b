/-
  What tokens a text has, said by plain functions on lists of bytes; no program is named here.
-/
import Derived.WalkKit
namespace Go.Proofs.YtkckmfnmdkfkaaaDoor
namespace Lx

def isDig (c : UInt8) : Bool := decide (48 ≤ c.toNat) && decide (c.toNat ≤ 57)
def isLet (c : UInt8) : Bool := ((decide (97 ≤ c.toNat) && decide (c.toNat ≤ 122)) || (decide (65 ≤ c.toNat) && decide (c.toNat ≤ 90))) || c.toNat == 95
def isBl (c : UInt8) : Bool := ((c.toNat == 9 || c.toNat == 10) || c.toNat == 13) || c.toNat == 32
def isNm (c : UInt8) : Bool := isLet c || isDig c
def notNl (c : UInt8) : Bool := c.toNat != 10
def sigBytes : List UInt8 := [40, 41, 91, 93, 123, 125, 44, 59, 58, 61, 45, 43, 42, 60, 124, 126]
def isSg (c : UInt8) : Bool := sigBytes.contains c
def twos : List (List UInt8) := [[58, 58], [61, 61], [61, 62], [45, 62]]
def wordList : List (List UInt8) :=
  [[111, 112], [111, 110, 99, 101], [109, 97, 110, 121], [100, 101, 102], [114, 101, 99], [109, 97, 105, 110], [108, 101, 116], [105, 110], [102, 110], [105, 102],
   [116, 104, 101, 110], [101, 108, 115, 101], [99, 97, 115, 101], [111, 102], [101, 110, 100], [100, 111], [102, 115, 116], [115, 110, 100], [104, 97, 110, 100, 108, 101],
   [115, 104, 97, 108, 108, 111, 119], [119, 105, 116, 104], [114, 101, 116, 117, 114, 110], [116, 114, 117, 101], [102, 97, 108, 115, 101], [105, 110, 116], [98, 111, 111, 108],
   [117, 110, 105, 116], [108, 105, 115, 116]]
def isWd (l : List UInt8) : Bool := wordList.contains l

/-- A token: its kind, its place, its text, its number. -/
structure Tk where
  kind : Nat
  pos : Nat
  text : List UInt8
  num : Nat

def numVal (l : List UInt8) : Nat := l.foldl (fun a c => 10 * a + (c.toNat - 48)) 0
def okNum (l : List UInt8) : Bool := !(decide (1 < l.length) && l.head? == some 48) && decide (numVal l ≤ 9223372036854775807)
def signLen (l : List UInt8) : Nat := if twos.contains (l.take 2) then 2 else 1

/-- The token at the head of a list, and how many bytes it has; or its fault. -/
def tokAt (pos : Nat) (l : List UInt8) : Except (Nat × Nat) (Tk × Nat) :=
  if (l.head?.map isDig).getD false then
    (if okNum (l.takeWhile isDig) then .ok (⟨1, pos, [], numVal (l.takeWhile isDig)⟩, (l.takeWhile isDig).length) else .error (3, pos))
  else if (l.head?.map isLet).getD false then
    (if (l.takeWhile isNm).length ≤ 20 then .ok (⟨if isWd (l.takeWhile isNm) then 3 else 2, pos, l.takeWhile isNm, 0⟩, (l.takeWhile isNm).length) else .error (3, pos))
  else if (l.head?.map isSg).getD false then .ok (⟨4, pos, l.take (signLen l), 0⟩, signLen l)
  else .error (2, pos)

def consTo (t : Tk) : Except (Nat × Nat) (List Tk) → Except (Nat × Nat) (List Tk)
  | .error e => .error e
  | .ok ts => .ok (t :: ts)

def appTo (a : List Tk) : Except (Nat × Nat) (List Tk) → Except (Nat × Nat) (List Tk)
  | .error e => .error e
  | .ok ts => .ok (a ++ ts)

/-- The tokens of a list, by at most so many steps; N: the place of the end. -/
def lexF (N : Nat) : Nat → Nat → List UInt8 → Except (Nat × Nat) (List Tk)
  | 0, _, _ => .error (0, 0)
  | _ + 1, _, [] => .ok [⟨0, N, [], 0⟩]
  | f + 1, pos, c :: r =>
    if isBl c then lexF N f (pos + 1) r
    else if c.toNat = 35 then lexF N f (pos + ((c :: r).takeWhile notNl).length) ((c :: r).dropWhile notNl)
    else match tokAt pos (c :: r) with
      | .error e => .error e
      | .ok (t, n) => consTo t (lexF N f (pos + n) ((c :: r).drop n))

theorem tokAt_dig (pos : Nat) (c : UInt8) (r : List UInt8) (h : isDig c = true) : tokAt pos (c :: r) =
    (if okNum ((c :: r).takeWhile isDig) then .ok (⟨1, pos, [], numVal ((c :: r).takeWhile isDig)⟩, ((c :: r).takeWhile isDig).length) else .error (3, pos)) := by
  simp only [tokAt, List.head?_cons, Option.map_some, Option.getD_some, h, if_true]

theorem tokAt_let (pos : Nat) (c : UInt8) (r : List UInt8) (h0 : isDig c = false) (h : isLet c = true) : tokAt pos (c :: r) =
    (if ((c :: r).takeWhile isNm).length ≤ 20 then .ok (⟨if isWd ((c :: r).takeWhile isNm) then 3 else 2, pos, (c :: r).takeWhile isNm, 0⟩, ((c :: r).takeWhile isNm).length) else .error (3, pos)) := by
  simp only [tokAt, List.head?_cons, Option.map_some, Option.getD_some, h0, h, if_true, Bool.false_eq_true, if_false]

theorem tokAt_sg (pos : Nat) (c : UInt8) (r : List UInt8) (h0 : isDig c = false) (h1 : isLet c = false) (h : isSg c = true) : tokAt pos (c :: r) =
    .ok (⟨4, pos, (c :: r).take (signLen (c :: r)), 0⟩, signLen (c :: r)) := by
  simp only [tokAt, List.head?_cons, Option.map_some, Option.getD_some, h0, h1, h, if_true, Bool.false_eq_true, if_false]

theorem tokAt_no (pos : Nat) (c : UInt8) (r : List UInt8) (h0 : isDig c = false) (h1 : isLet c = false) (h : isSg c = false) : tokAt pos (c :: r) = .error (2, pos) := by
  simp only [tokAt, List.head?_cons, Option.map_some, Option.getD_some, h0, h1, h, Bool.false_eq_true, if_false]

theorem signLen_le (c : UInt8) (r : List UInt8) : 1 ≤ signLen (c :: r) ∧ signLen (c :: r) ≤ (c :: r).length := by
  unfold signLen
  by_cases h3 : twos.contains ((c :: r).take 2) = true
  · rw [if_pos h3]
    refine ⟨by omega, ?_⟩
    cases r with
    | nil =>
      exfalso
      simp [twos] at h3
    | cons a b => simp
  · rw [if_neg h3]
    simp

theorem tokAt_pos {pos : Nat} {c : UInt8} {r : List UInt8} {t : Tk} {n : Nat} (h : tokAt pos (c :: r) = .ok (t, n)) : 1 ≤ n ∧ n ≤ (c :: r).length := by
  cases h1 : isDig c with
  | true =>
    rw [tokAt_dig pos c r h1] at h
    by_cases h2 : okNum ((c :: r).takeWhile isDig) = true
    · rw [if_pos h2] at h
      simp only [Except.ok.injEq, Prod.mk.injEq] at h
      rw [← h.2]
      exact ⟨by simp [h1], (List.takeWhile_sublist _).length_le⟩
    · rw [if_neg h2] at h
      cases h
  | false =>
    cases h2 : isLet c with
    | true =>
      rw [tokAt_let pos c r h1 h2] at h
      by_cases h3 : ((c :: r).takeWhile isNm).length ≤ 20
      · rw [if_pos h3] at h
        simp only [Except.ok.injEq, Prod.mk.injEq] at h
        rw [← h.2]
        exact ⟨by simp [isNm, h2], (List.takeWhile_sublist _).length_le⟩
      · rw [if_neg h3] at h
        cases h
    | false =>
      cases h3 : isSg c with
      | true =>
        rw [tokAt_sg pos c r h1 h2 h3] at h
        simp only [Except.ok.injEq, Prod.mk.injEq] at h
        rw [← h.2]
        exact signLen_le c r
      | false =>
        rw [tokAt_no pos c r h1 h2 h3] at h
        cases h

theorem dropWhile_len (c : UInt8) (r : List UInt8) (h : c.toNat = 35) : ((c :: r).dropWhile notNl).length ≤ r.length := by
  have : notNl c = true := by simp [notNl, h]
  simp only [List.dropWhile_cons, this, if_true]
  exact (List.dropWhile_sublist _).length_le

theorem lexF_fuel (N : Nat) : ∀ (f g pos : Nat) (l : List UInt8), l.length < f → l.length < g → lexF N f pos l = lexF N g pos l := by
  intro f
  induction f with
  | zero => intro g pos l h; omega
  | succ f ih =>
    intro g pos l h1 h2
    obtain ⟨g, rfl⟩ : ∃ k, g = k + 1 := ⟨g - 1, by omega⟩
    cases l with
    | nil => simp [lexF]
    | cons c r =>
      simp only [List.length_cons] at h1 h2
      simp only [lexF]
      split
      · exact ih _ _ _ (by omega) (by omega)
      · split
        · rename_i h3
          have := dropWhile_len c r h3
          exact ih _ _ _ (by omega) (by omega)
        · cases hT : tokAt pos (c :: r) with
          | error e => rfl
          | ok x =>
            obtain ⟨t, n⟩ := x
            have := tokAt_pos hT
            simp only [List.length_cons] at this
            simp only []
            rw [ih g (pos + n) ((c :: r).drop n) (by simp; omega) (by simp; omega)]

/-- The tokens of a list that stands at a place. -/
def lex (N pos : Nat) (l : List UInt8) : Except (Nat × Nat) (List Tk) := lexF N (l.length + 1) pos l

theorem lex_nil (N pos : Nat) : lex N pos [] = .ok [⟨0, N, [], 0⟩] := by simp [lex, lexF]

theorem lex_blank (N pos : Nat) (c : UInt8) (r : List UInt8) (h : isBl c = true) : lex N pos (c :: r) = lex N (pos + 1) r := by
  show lexF N (r.length + 1 + 1) pos (c :: r) = _
  simp only [lexF, h, if_true]
  rfl

/-- What stands behind a remark's head. -/
def lexRem (N pos : Nat) (l : List UInt8) : Except (Nat × Nat) (List Tk) := lex N (pos + (l.takeWhile notNl).length) (l.dropWhile notNl)

theorem lex_hash (N pos : Nat) (c : UInt8) (r : List UInt8) (h : c.toNat = 35) : lex N pos (c :: r) = lexRem N pos (c :: r) := by
  have hb : isBl c = false := by simp [isBl, h]
  have hd := dropWhile_len c r h
  unfold lexRem
  show lexF N (r.length + 1 + 1) pos (c :: r) = lexF N _ _ _
  rw [lexF]
  simp only [hb, Bool.false_eq_true, if_false, h, if_true]
  exact lexF_fuel N _ _ _ _ (by omega) (by omega)

theorem lexRem_nil (N pos : Nat) : lexRem N pos [] = .ok [⟨0, N, [], 0⟩] := by simp [lexRem, lex_nil]

theorem lexRem_nl (N pos : Nat) (c : UInt8) (r : List UInt8) (h : c.toNat = 10) : lexRem N pos (c :: r) = lex N pos (c :: r) := by
  have : notNl c = false := by simp [notNl, h]
  simp [lexRem, this]

theorem lexRem_in (N pos : Nat) (c : UInt8) (r : List UInt8) (h : notNl c = true) : lexRem N pos (c :: r) = lexRem N (pos + 1) r := by
  simp only [lexRem, List.takeWhile_cons, List.dropWhile_cons, h, if_true, List.length_cons]
  congr 1
  omega

theorem lex_err (N pos : Nat) (c : UInt8) (r : List UInt8) (h1 : isBl c = false) (h2 : c.toNat ≠ 35) {e : Nat × Nat} (h : tokAt pos (c :: r) = .error e) : lex N pos (c :: r) = .error e := by
  show lexF N (r.length + 1 + 1) pos (c :: r) = _
  simp only [lexF, h1, h2, h, Bool.false_eq_true, if_false]

theorem lex_tok (N pos : Nat) (c : UInt8) (r : List UInt8) (h1 : isBl c = false) (h2 : c.toNat ≠ 35) {t : Tk} {n : Nat} (h : tokAt pos (c :: r) = .ok (t, n)) :
    lex N pos (c :: r) = consTo t (lex N (pos + n) ((c :: r).drop n)) := by
  have hp := tokAt_pos h
  simp only [List.length_cons] at hp
  show lexF N (r.length + 1 + 1) pos (c :: r) = _
  simp only [lexF, h1, h2, h, Bool.false_eq_true, if_false]
  rw [lex, lexF_fuel N (r.length + 1) (((c :: r).drop n).length + 1) _ _ (by simp; omega) (by omega)]

theorem appTo_cons (a : List Tk) (t : Tk) (x : Except (Nat × Nat) (List Tk)) : appTo a (consTo t x) = appTo (a ++ [t]) x := by
  cases x <;> simp [appTo, consTo]
theorem appTo_nil (x : Except (Nat × Nat) (List Tk)) : appTo [] x = x := by cases x <;> simp [appTo]

end Lx
end Go.Proofs.YtkckmfnmdkfkaaaDoor
