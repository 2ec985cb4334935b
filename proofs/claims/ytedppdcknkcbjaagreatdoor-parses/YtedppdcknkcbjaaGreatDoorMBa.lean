/-
  Three small words that all the texts use.
  What tokens a text has, said by plain functions on lists of bytes; no program is named here.
  The tokens of a text up to its first fault, and that fault: plain functions on lists of bytes; no program is named here.
  How a list of tokens is read into a tree, said by plain functions; no program is named here. The functions that end in A go on behind a fault, with the fault kept; those that end in B stop at it.
-/
import Derived.Test.YtedppdcknkcbjaaGreatDoorProg
import Derived.WalkSpells
import Derived.WalkKit
set_option linter.unusedVariables false
set_option linter.unusedSimpArgs false
namespace Go.Proofs.YtedppdcknkcbjaaGreatDoor
open Go.RowKit

theorem hid {p : Prop} (h : p) : Hid p := h
theorem ret_bool {a b : Bool} (h : a = b) : Ending.returned (.bool a) = .returned (.bool b) := by rw [h]
theorem ret_int {k : IntKind} {a b : Int} (h : a = b) : Ending.returned (.int k a) = .returned (.int k b) := by rw [h]
end Go.Proofs.YtedppdcknkcbjaaGreatDoor

namespace Go.Proofs.YtedppdcknkcbjaaGreatDoor
namespace Lx

def isDig (c : UInt8) : Bool := decide (48 ≤ c.toNat) && decide (c.toNat ≤ 57)
def isLet (c : UInt8) : Bool := ((decide (97 ≤ c.toNat) && decide (c.toNat ≤ 122)) || (decide (65 ≤ c.toNat) && decide (c.toNat ≤ 90))) || c.toNat == 95
def isBl (c : UInt8) : Bool := ((c.toNat == 9 || c.toNat == 10) || c.toNat == 13) || c.toNat == 32
def isNm (c : UInt8) : Bool := isLet c || isDig c
def notNl (c : UInt8) : Bool := c.toNat != 10
def sigBytes : List UInt8 := [40, 41, 91, 93, 123, 125, 44, 59, 58, 61, 45, 43, 42, 60, 124, 126]
def isSg (c : UInt8) : Bool := sigBytes.contains c
def twos : List (List UInt8) := [[58, 58], [61, 61], [61, 62], [45, 62]]
def wordList : List (List UInt8) :=
  [[111, 112], [111, 110, 99, 101], [109, 97, 110, 121], [100, 101, 102], [114, 101, 99], [109, 97, 105, 110], [108, 101, 116], [105, 110], [102, 110], [105, 102],
   [116, 104, 101, 110], [101, 108, 115, 101], [99, 97, 115, 101], [111, 102], [101, 110, 100], [100, 111], [102, 115, 116], [115, 110, 100], [104, 97, 110, 100, 108, 101],
   [115, 104, 97, 108, 108, 111, 119], [119, 105, 116, 104], [114, 101, 116, 117, 114, 110], [116, 114, 117, 101], [102, 97, 108, 115, 101], [105, 110, 116], [98, 111, 111, 108],
   [117, 110, 105, 116], [108, 105, 115, 116]]
def isWd (l : List UInt8) : Bool := wordList.contains l

/-- A token: its kind, its place, its text, its number. -/
structure Tk where
  kind : Nat
  pos : Nat
  text : List UInt8
  num : Nat

def numVal (l : List UInt8) : Nat := l.foldl (fun a c => 10 * a + (c.toNat - 48)) 0
def okNum (l : List UInt8) : Bool := !(decide (1 < l.length) && l.head? == some 48) && decide (numVal l ≤ 9223372036854775807)
def signLen (l : List UInt8) : Nat := if twos.contains (l.take 2) then 2 else 1

/-- The token at the head of a list, and how many bytes it has; or its fault. -/
def tokAt (pos : Nat) (l : List UInt8) : Except (Nat × Nat) (Tk × Nat) :=
  if (l.head?.map isDig).getD false then
    (if okNum (l.takeWhile isDig) then .ok (⟨1, pos, [], numVal (l.takeWhile isDig)⟩, (l.takeWhile isDig).length) else .error (3, pos))
  else if (l.head?.map isLet).getD false then
    (if (l.takeWhile isNm).length ≤ 20 then .ok (⟨if isWd (l.takeWhile isNm) then 3 else 2, pos, l.takeWhile isNm, 0⟩, (l.takeWhile isNm).length) else .error (3, pos))
  else if (l.head?.map isSg).getD false then .ok (⟨4, pos, l.take (signLen l), 0⟩, signLen l)
  else .error (2, pos)

def consTo (t : Tk) : Except (Nat × Nat) (List Tk) → Except (Nat × Nat) (List Tk)
  | .error e => .error e
  | .ok ts => .ok (t :: ts)

def appTo (a : List Tk) : Except (Nat × Nat) (List Tk) → Except (Nat × Nat) (List Tk)
  | .error e => .error e
  | .ok ts => .ok (a ++ ts)

/-- The tokens of a list, by at most so many steps; N: the place of the end. -/
def lexF (N : Nat) : Nat → Nat → List UInt8 → Except (Nat × Nat) (List Tk)
  | 0, _, _ => .error (0, 0)
  | _ + 1, _, [] => .ok [⟨0, N, [], 0⟩]
  | f + 1, pos, c :: r =>
    if isBl c then lexF N f (pos + 1) r
    else if c.toNat = 35 then lexF N f (pos + ((c :: r).takeWhile notNl).length) ((c :: r).dropWhile notNl)
    else match tokAt pos (c :: r) with
      | .error e => .error e
      | .ok (t, n) => consTo t (lexF N f (pos + n) ((c :: r).drop n))

theorem tokAt_dig (pos : Nat) (c : UInt8) (r : List UInt8) (h : isDig c = true) : tokAt pos (c :: r) =
    (if okNum ((c :: r).takeWhile isDig) then .ok (⟨1, pos, [], numVal ((c :: r).takeWhile isDig)⟩, ((c :: r).takeWhile isDig).length) else .error (3, pos)) := by
  simp only [tokAt, List.head?_cons, Option.map_some, Option.getD_some, h, if_true]

theorem tokAt_let (pos : Nat) (c : UInt8) (r : List UInt8) (h0 : isDig c = false) (h : isLet c = true) : tokAt pos (c :: r) =
    (if ((c :: r).takeWhile isNm).length ≤ 20 then .ok (⟨if isWd ((c :: r).takeWhile isNm) then 3 else 2, pos, (c :: r).takeWhile isNm, 0⟩, ((c :: r).takeWhile isNm).length) else .error (3, pos)) := by
  simp only [tokAt, List.head?_cons, Option.map_some, Option.getD_some, h0, h, if_true, Bool.false_eq_true, if_false]

theorem tokAt_sg (pos : Nat) (c : UInt8) (r : List UInt8) (h0 : isDig c = false) (h1 : isLet c = false) (h : isSg c = true) : tokAt pos (c :: r) =
    .ok (⟨4, pos, (c :: r).take (signLen (c :: r)), 0⟩, signLen (c :: r)) := by
  simp only [tokAt, List.head?_cons, Option.map_some, Option.getD_some, h0, h1, h, if_true, Bool.false_eq_true, if_false]

theorem tokAt_no (pos : Nat) (c : UInt8) (r : List UInt8) (h0 : isDig c = false) (h1 : isLet c = false) (h : isSg c = false) : tokAt pos (c :: r) = .error (2, pos) := by
  simp only [tokAt, List.head?_cons, Option.map_some, Option.getD_some, h0, h1, h, Bool.false_eq_true, if_false]

theorem signLen_le (c : UInt8) (r : List UInt8) : 1 ≤ signLen (c :: r) ∧ signLen (c :: r) ≤ (c :: r).length := by
  unfold signLen
  by_cases h3 : twos.contains ((c :: r).take 2) = true
  · rw [if_pos h3]
    refine ⟨by omega, ?_⟩
    cases r with
    | nil =>
      exfalso
      simp [twos] at h3
    | cons a b => simp
  · rw [if_neg h3]
    simp

theorem tokAt_pos {pos : Nat} {c : UInt8} {r : List UInt8} {t : Tk} {n : Nat} (h : tokAt pos (c :: r) = .ok (t, n)) : 1 ≤ n ∧ n ≤ (c :: r).length := by
  cases h1 : isDig c with
  | true =>
    rw [tokAt_dig pos c r h1] at h
    by_cases h2 : okNum ((c :: r).takeWhile isDig) = true
    · rw [if_pos h2] at h
      simp only [Except.ok.injEq, Prod.mk.injEq] at h
      rw [← h.2]
      exact ⟨by simp [h1], (List.takeWhile_sublist _).length_le⟩
    · rw [if_neg h2] at h
      cases h
  | false =>
    cases h2 : isLet c with
    | true =>
      rw [tokAt_let pos c r h1 h2] at h
      by_cases h3 : ((c :: r).takeWhile isNm).length ≤ 20
      · rw [if_pos h3] at h
        simp only [Except.ok.injEq, Prod.mk.injEq] at h
        rw [← h.2]
        exact ⟨by simp [isNm, h2], (List.takeWhile_sublist _).length_le⟩
      · rw [if_neg h3] at h
        cases h
    | false =>
      cases h3 : isSg c with
      | true =>
        rw [tokAt_sg pos c r h1 h2 h3] at h
        simp only [Except.ok.injEq, Prod.mk.injEq] at h
        rw [← h.2]
        exact signLen_le c r
      | false =>
        rw [tokAt_no pos c r h1 h2 h3] at h
        cases h

theorem dropWhile_len (c : UInt8) (r : List UInt8) (h : c.toNat = 35) : ((c :: r).dropWhile notNl).length ≤ r.length := by
  have : notNl c = true := by simp [notNl, h]
  simp only [List.dropWhile_cons, this, if_true]
  exact (List.dropWhile_sublist _).length_le

theorem lexF_fuel (N : Nat) : ∀ (f g pos : Nat) (l : List UInt8), l.length < f → l.length < g → lexF N f pos l = lexF N g pos l := by
  intro f
  induction f with
  | zero => intro g pos l h; omega
  | succ f ih =>
    intro g pos l h1 h2
    obtain ⟨g, rfl⟩ : ∃ k, g = k + 1 := ⟨g - 1, by omega⟩
    cases l with
    | nil => simp [lexF]
    | cons c r =>
      simp only [List.length_cons] at h1 h2
      simp only [lexF]
      split
      · exact ih _ _ _ (by omega) (by omega)
      · split
        · rename_i h3
          have := dropWhile_len c r h3
          exact ih _ _ _ (by omega) (by omega)
        · cases hT : tokAt pos (c :: r) with
          | error e => rfl
          | ok x =>
            obtain ⟨t, n⟩ := x
            have := tokAt_pos hT
            simp only [List.length_cons] at this
            simp only []
            rw [ih g (pos + n) ((c :: r).drop n) (by simp; omega) (by simp; omega)]

/-- The tokens of a list that stands at a place. -/
def lex (N pos : Nat) (l : List UInt8) : Except (Nat × Nat) (List Tk) := lexF N (l.length + 1) pos l

theorem lex_nil (N pos : Nat) : lex N pos [] = .ok [⟨0, N, [], 0⟩] := by simp [lex, lexF]

theorem lex_blank (N pos : Nat) (c : UInt8) (r : List UInt8) (h : isBl c = true) : lex N pos (c :: r) = lex N (pos + 1) r := by
  show lexF N (r.length + 1 + 1) pos (c :: r) = _
  simp only [lexF, h, if_true]
  rfl

/-- What stands behind a remark's head. -/
def lexRem (N pos : Nat) (l : List UInt8) : Except (Nat × Nat) (List Tk) := lex N (pos + (l.takeWhile notNl).length) (l.dropWhile notNl)

theorem lex_hash (N pos : Nat) (c : UInt8) (r : List UInt8) (h : c.toNat = 35) : lex N pos (c :: r) = lexRem N pos (c :: r) := by
  have hb : isBl c = false := by simp [isBl, h]
  have hd := dropWhile_len c r h
  unfold lexRem
  show lexF N (r.length + 1 + 1) pos (c :: r) = lexF N _ _ _
  rw [lexF]
  simp only [hb, Bool.false_eq_true, if_false, h, if_true]
  exact lexF_fuel N _ _ _ _ (by omega) (by omega)

theorem lexRem_nil (N pos : Nat) : lexRem N pos [] = .ok [⟨0, N, [], 0⟩] := by simp [lexRem, lex_nil]

theorem lexRem_nl (N pos : Nat) (c : UInt8) (r : List UInt8) (h : c.toNat = 10) : lexRem N pos (c :: r) = lex N pos (c :: r) := by
  have : notNl c = false := by simp [notNl, h]
  simp [lexRem, this]

theorem lexRem_in (N pos : Nat) (c : UInt8) (r : List UInt8) (h : notNl c = true) : lexRem N pos (c :: r) = lexRem N (pos + 1) r := by
  simp only [lexRem, List.takeWhile_cons, List.dropWhile_cons, h, if_true, List.length_cons]
  congr 1
  omega

theorem lex_err (N pos : Nat) (c : UInt8) (r : List UInt8) (h1 : isBl c = false) (h2 : c.toNat ≠ 35) {e : Nat × Nat} (h : tokAt pos (c :: r) = .error e) : lex N pos (c :: r) = .error e := by
  show lexF N (r.length + 1 + 1) pos (c :: r) = _
  simp only [lexF, h1, h2, h, Bool.false_eq_true, if_false]

theorem lex_tok (N pos : Nat) (c : UInt8) (r : List UInt8) (h1 : isBl c = false) (h2 : c.toNat ≠ 35) {t : Tk} {n : Nat} (h : tokAt pos (c :: r) = .ok (t, n)) :
    lex N pos (c :: r) = consTo t (lex N (pos + n) ((c :: r).drop n)) := by
  have hp := tokAt_pos h
  simp only [List.length_cons] at hp
  show lexF N (r.length + 1 + 1) pos (c :: r) = _
  simp only [lexF, h1, h2, h, Bool.false_eq_true, if_false]
  rw [lex, lexF_fuel N (r.length + 1) (((c :: r).drop n).length + 1) _ _ (by simp; omega) (by omega)]

theorem appTo_cons (a : List Tk) (t : Tk) (x : Except (Nat × Nat) (List Tk)) : appTo a (consTo t x) = appTo (a ++ [t]) x := by
  cases x <;> simp [appTo, consTo]
theorem appTo_nil (x : Except (Nat × Nat) (List Tk)) : appTo [] x = x := by cases x <;> simp [appTo]

end Lx
end Go.Proofs.YtedppdcknkcbjaaGreatDoor

namespace Go.Proofs.YtedppdcknkcbjaaGreatDoor
namespace Lx

def tcons (t : Tk) (x : List Tk × (Nat × Nat)) : List Tk × (Nat × Nat) := (t :: x.1, x.2)

def toksF : Nat → Nat → List UInt8 → List Tk × (Nat × Nat)
  | 0, _, _ => ([], (0, 0))
  | _ + 1, _, [] => ([], (0, 0))
  | f + 1, pos, c :: r =>
    if isBl c then toksF f (pos + 1) r
    else if c.toNat = 35 then toksF f (pos + ((c :: r).takeWhile notNl).length) ((c :: r).dropWhile notNl)
    else match tokAt pos (c :: r) with
      | .error e => ([], e)
      | .ok (t, n) => tcons t (toksF f (pos + n) ((c :: r).drop n))

theorem toksF_fuel : ∀ (f g pos : Nat) (l : List UInt8), l.length < f → l.length < g → toksF f pos l = toksF g pos l := by
  intro f
  induction f with
  | zero => intro g pos l h; omega
  | succ f ih =>
    intro g pos l h1 h2
    obtain ⟨g, rfl⟩ : ∃ k, g = k + 1 := ⟨g - 1, by omega⟩
    cases l with
    | nil => simp [toksF]
    | cons c r =>
      simp only [List.length_cons] at h1 h2
      simp only [toksF]
      split
      · exact ih _ _ _ (by omega) (by omega)
      · split
        · rename_i h3
          have := dropWhile_len c r h3
          exact ih _ _ _ (by omega) (by omega)
        · cases hT : tokAt pos (c :: r) with
          | error e => rfl
          | ok x =>
            obtain ⟨t, n⟩ := x
            have := tokAt_pos hT
            simp only [List.length_cons] at this
            simp only []
            rw [ih g (pos + n) ((c :: r).drop n) (by simp; omega) (by simp; omega)]

/-- The tokens of a list that stands at a place, up to the first fault; and that fault. -/
def toks (_N pos : Nat) (l : List UInt8) : List Tk × (Nat × Nat) := toksF (l.length + 1) pos l

theorem toks_nil (N pos : Nat) : toks N pos [] = ([], (0, 0)) := by simp [toks, toksF]

theorem toks_blank (N pos : Nat) (c : UInt8) (r : List UInt8) (h : isBl c = true) : toks N pos (c :: r) = toks N (pos + 1) r := by
  show toksF (r.length + 1 + 1) pos (c :: r) = _
  simp only [toksF, h, if_true]
  rfl

/-- What stands behind a remark's head. -/
def toksRem (N pos : Nat) (l : List UInt8) : List Tk × (Nat × Nat) := toks N (pos + (l.takeWhile notNl).length) (l.dropWhile notNl)

theorem toks_hash (N pos : Nat) (c : UInt8) (r : List UInt8) (h : c.toNat = 35) : toks N pos (c :: r) = toksRem N pos (c :: r) := by
  have hb : isBl c = false := by simp [isBl, h]
  have hd := dropWhile_len c r h
  unfold toksRem
  show toksF (r.length + 1 + 1) pos (c :: r) = toksF _ _ _
  rw [toksF]
  simp only [hb, Bool.false_eq_true, if_false, h, if_true]
  exact toksF_fuel _ _ _ _ (by omega) (by omega)

theorem toksRem_nil (N pos : Nat) : toksRem N pos [] = ([], (0, 0)) := by simp [toksRem, toks_nil]

theorem toksRem_nl (N pos : Nat) (c : UInt8) (r : List UInt8) (h : c.toNat = 10) : toksRem N pos (c :: r) = toks N pos (c :: r) := by
  have : notNl c = false := by simp [notNl, h]
  simp [toksRem, this]

theorem toksRem_in (N pos : Nat) (c : UInt8) (r : List UInt8) (h : notNl c = true) : toksRem N pos (c :: r) = toksRem N (pos + 1) r := by
  simp only [toksRem, List.takeWhile_cons, List.dropWhile_cons, h, if_true, List.length_cons]
  congr 1
  omega

theorem toks_err (N pos : Nat) (c : UInt8) (r : List UInt8) (h1 : isBl c = false) (h2 : c.toNat ≠ 35) {e : Nat × Nat} (h : tokAt pos (c :: r) = .error e) : toks N pos (c :: r) = ([], e) := by
  show toksF (r.length + 1 + 1) pos (c :: r) = _
  simp only [toksF, h1, h2, h, Bool.false_eq_true, if_false]

theorem toks_tok (N pos : Nat) (c : UInt8) (r : List UInt8) (h1 : isBl c = false) (h2 : c.toNat ≠ 35) {t : Tk} {n : Nat} (h : tokAt pos (c :: r) = .ok (t, n)) :
    toks N pos (c :: r) = tcons t (toks N (pos + n) ((c :: r).drop n)) := by
  have hp := tokAt_pos h
  simp only [List.length_cons] at hp
  show toksF (r.length + 1 + 1) pos (c :: r) = _
  simp only [toksF, h1, h2, h, Bool.false_eq_true, if_false]
  rw [toks, toksF_fuel (r.length + 1) (((c :: r).drop n).length + 1) _ _ (by simp; omega) (by omega)]

end Lx
end Go.Proofs.YtedppdcknkcbjaaGreatDoor

namespace Go.Proofs.YtedppdcknkcbjaaGreatDoor
namespace Sy
open Lx

/-- A tree: its kind, its place, its name, its number, its kids. -/
inductive Tr where
  | mk (kind pos : Nat) (name : List UInt8) (num : Int) (kids : List Tr)

def Tr.pos : Tr → Nat
  | .mk _ p _ _ _ => p
def Tr.kind : Tr → Nat
  | .mk k _ _ _ _ => k
def Tr.name : Tr → List UInt8
  | .mk _ _ x _ _ => x
def Tr.num : Tr → Int
  | .mk _ _ _ n _ => n
def Tr.kids : Tr → List Tr
  | .mk _ _ _ _ l => l
def Tr.at : Tr → Nat → Tr
  | .mk k _ m n l, p => .mk k p m n l
def zT : Tr := .mk 0 0 [] 0 []
def nd (k p : Nat) (l : List Tr) : Tr := .mk k p [] 0 l
def nm (k p : Nat) (x : List UInt8) (l : List Tr) : Tr := .mk k p x 0 l

/-- What stands behind the last token: a fault (kind and place), or the end's place. -/
structure Env where
  fin : Nat × Nat
  stop : Nat

def endTk (z : Env) : Tk := ⟨0, z.stop, [], 0⟩
def zTk : Tk := ⟨0, 0, [], 0⟩

/-- The state of a reader that keeps its fault. -/
structure RS where
  t : Tk
  rest : List Tk
  f : Nat × Nat

def okA (s : RS) : Bool := s.f.1 == 0
def nextA (z : Env) (s : RS) : RS :=
  if okA s then
    match s.rest with
    | x :: r => ⟨x, r, (0, 0)⟩
    | [] => if z.fin.1 = 0 then ⟨endTk z, [], (0, 0)⟩ else ⟨zTk, [], z.fin⟩
  else s
def noA (s : RS) : RS := if okA s then ⟨s.t, s.rest, (4, s.t.pos)⟩ else s
def deepA (s : RS) : RS := ⟨s.t, s.rest, (5, s.t.pos)⟩
def isA (x : List UInt8) (s : RS) : Bool := okA s && (s.t.kind == 3 || s.t.kind == 4) && s.t.text == x
def hasA (z : Env) (x : List UInt8) (s : RS) : RS := if isA x s then nextA z s else s
def mustA (z : Env) (x : List UInt8) (s : RS) : RS := if isA x s then nextA z s else noA s
def isNameA (s : RS) : Bool := okA s && s.t.kind == 2
def nameA (z : Env) (s : RS) : (List UInt8 × Nat) × RS := if isNameA s then ((s.t.text, s.t.pos), nextA z s) else (([], 0), noA s)
def stuckA (s : RS) : RS := if okA s then ⟨s.t, s.rest, (99, 0)⟩ else s

def w_op : List UInt8 := [111, 112]
def w_once : List UInt8 := [111, 110, 99, 101]
def w_many : List UInt8 := [109, 97, 110, 121]
def w_def : List UInt8 := [100, 101, 102]
def w_rec : List UInt8 := [114, 101, 99]
def w_main : List UInt8 := [109, 97, 105, 110]
def w_let : List UInt8 := [108, 101, 116]
def w_in : List UInt8 := [105, 110]
def w_fn : List UInt8 := [102, 110]
def w_if : List UInt8 := [105, 102]
def w_then : List UInt8 := [116, 104, 101, 110]
def w_else : List UInt8 := [101, 108, 115, 101]
def w_case : List UInt8 := [99, 97, 115, 101]
def w_of : List UInt8 := [111, 102]
def w_end : List UInt8 := [101, 110, 100]
def w_do : List UInt8 := [100, 111]
def w_fst : List UInt8 := [102, 115, 116]
def w_snd : List UInt8 := [115, 110, 100]
def w_handle : List UInt8 := [104, 97, 110, 100, 108, 101]
def w_shallow : List UInt8 := [115, 104, 97, 108, 108, 111, 119]
def w_with : List UInt8 := [119, 105, 116, 104]
def w_return : List UInt8 := [114, 101, 116, 117, 114, 110]
def w_true : List UInt8 := [116, 114, 117, 101]
def w_false : List UInt8 := [102, 97, 108, 115, 101]
def w_int : List UInt8 := [105, 110, 116]
def w_bool : List UInt8 := [98, 111, 111, 108]
def w_unit : List UInt8 := [117, 110, 105, 116]
def w_list : List UInt8 := [108, 105, 115, 116]
def s_lp : List UInt8 := [40]
def s_rp : List UInt8 := [41]
def s_ls : List UInt8 := [91]
def s_rs : List UInt8 := [93]
def s_lb : List UInt8 := [123]
def s_rb : List UInt8 := [125]
def s_comma : List UInt8 := [44]
def s_semi : List UInt8 := [59]
def s_colon : List UInt8 := [58]
def s_eq : List UInt8 := [61]
def s_minus : List UInt8 := [45]
def s_plus : List UInt8 := [43]
def s_star : List UInt8 := [42]
def s_lt : List UInt8 := [60]
def s_bar : List UInt8 := [124]
def s_tilde : List UInt8 := [126]
def s_cons : List UInt8 := [58, 58]
def s_eqeq : List UInt8 := [61, 61]
def s_to : List UInt8 := [61, 62]
def s_arrow : List UInt8 := [45, 62]

section A
variable (z : Env) (N : Nat)

/- types -/
def rowA : Nat → List Tr → RS → List Tr × RS
  | 0, l, s => (l, stuckA s)
  | n + 1, l, s =>
    if isA s_comma (nameA z s).2 then rowA n (l ++ [nm 23 (nameA z s).1.2 (nameA z s).1.1 []]) (nextA z (nameA z s).2)
    else (l ++ [nm 23 (nameA z s).1.2 (nameA z s).1.1 []], (nameA z s).2)

def listsA : Nat → Tr → RS → Tr × RS
  | 0, a, s => (a, stuckA s)
  | n + 1, a, s => if isA w_list s then listsA n (nd 27 a.pos [a]) (nextA z s) else (a, s)

def tatomA (T : RS → Tr × RS) (s : RS) : Tr × RS :=
  if isA w_int s then (nd 24 s.t.pos [], nextA z s)
  else if isA w_bool s then (nd 25 s.t.pos [], nextA z s)
  else if isA w_unit s then (nd 26 s.t.pos [], nextA z s)
  else if isA s_lp s then ((T (nextA z s)).1, mustA z s_rp (T (nextA z s)).2)
  else (zT, noA s)

def someA (T : RS → Tr × RS) (s : RS) : Tr × RS := listsA z N (tatomA z T s).1 (tatomA z T s).2

def pairA (T : RS → Tr × RS) : Nat → RS → Tr × RS
  | 0, s => (zT, stuckA s)
  | n + 1, s =>
    if isA s_star (someA z N T s).2 then
      (nd 28 (someA z N T s).1.pos [(someA z N T s).1, (pairA T n (nextA z (someA z N T s).2)).1], (pairA T n (nextA z (someA z N T s).2)).2)
    else someA z N T s

def typBodyA (T : RS → Tr × RS) (s : RS) : Tr × RS :=
  let a := pairA z N T N s
  if isA s_arrow a.2 then (nd 29 a.1.pos [a.1, (T (nextA z a.2)).1], (T (nextA z a.2)).2)
  else if isA s_minus a.2 then
    let l := rowA z N [] (mustA z s_lb (nextA z a.2))
    let b := T (mustA z s_arrow (mustA z s_rb l.2))
    (nd 29 a.1.pos ([a.1, b.1] ++ l.1), b.2)
  else a

def typA : Nat → RS → Tr × RS
  | 0, s => if okA s then (zT, deepA s) else (zT, s)
  | k + 1, s => if okA s then typBodyA z N (typA k) s else (zT, s)

/- expressions; E: the reader of expressions one deeper -/
def paramsA (E : RS → Tr × RS) (sign : List UInt8) : Nat → Bool → RS → Tr × RS
  | 0, _, s => (zT, stuckA s)
  | n + 1, first, s =>
    if first || isNameA s then
      if okA (nameA z s).2 then
        (nm 7 (nameA z s).1.2 (nameA z s).1.1 [(paramsA E sign n false (nameA z s).2).1], (paramsA E sign n false (nameA z s).2).2)
      else (zT, (nameA z s).2)
    else E (mustA z sign s)

def squaresA (E : RS → Tr × RS) : Nat → List Tr → RS → List Tr × RS
  | 0, l, s => (l, stuckA s)
  | n + 1, l, s => if isA s_comma (E s).2 then squaresA E n (l ++ [(E s).1]) (nextA z (E s).2) else (l ++ [(E s).1], (E s).2)

def consUp (l : List Tr) (e : Tr) : Tr := l.foldr (fun a b => nd 16 a.pos [a, b]) e

def squareA (E : RS → Tr × RS) (p : Nat) (s : RS) : Tr × RS :=
  if isA s_rs s then (nd 15 p [], nextA z s)
  else
    let l := squaresA z E N [] s
    (consUp l.1 (nd 15 p []), mustA z s_rs l.2)

def roundA (E : RS → Tr × RS) (p : Nat) (s : RS) : Tr × RS :=
  if isA s_rp s then (nd 5 p [], nextA z s)
  else
    let a := E s
    if isA s_comma a.2 then
      let b := E (nextA z a.2)
      (nd 12 p [a.1, b.1], mustA z s_rp b.2)
    else (a.1, mustA z s_rp a.2)

def atomA (E : RS → Tr × RS) (s : RS) : Tr × RS :=
  if okA s then
    if s.t.kind = 2 then (nm 6 s.t.pos s.t.text [], nextA z s)
    else if s.t.kind = 1 then (.mk 3 s.t.pos [] s.t.num [], nextA z s)
    else if isA s_tilde s then
      let u := nextA z s
      (.mk 3 s.t.pos [] (-u.t.num) [], nextA z (if okA u && u.t.kind != 1 then noA u else u))
    else if isA w_true s then (.mk 4 s.t.pos [] 1 [], nextA z s)
    else if isA w_false s then (nd 4 s.t.pos [], nextA z s)
    else if isA s_lp s then roundA z E s.t.pos (nextA z s)
    else if isA s_ls s then squareA z N E s.t.pos (nextA z s)
    else (zT, noA s)
  else (zT, s)

def beginsA (s : RS) : Bool := okA s && (s.t.kind == 2 || s.t.kind == 1 || isA s_tilde s || isA w_true s || isA w_false s || isA s_lp s || isA s_ls s)

def appsA (E : RS → Tr × RS) : Nat → Tr → RS → Tr × RS
  | 0, a, s => (a, stuckA s)
  | n + 1, a, s => if beginsA s then appsA E n (nd 8 a.pos [a, (atomA z N E s).1]) (atomA z N E s).2 else (a, s)

def appA (E : RS → Tr × RS) (s : RS) : Tr × RS :=
  if isA w_do s then
    let x := nameA z (nextA z s)
    let a := atomA z N E x.2
    (nm 19 s.t.pos x.1.1 [a.1], a.2)
  else if isA w_fst s then
    let a := atomA z N E (nextA z s)
    (nd 13 s.t.pos [a.1], a.2)
  else if isA w_snd s then
    let a := atomA z N E (nextA z s)
    (nd 14 s.t.pos [a.1], a.2)
  else appsA z N E N (atomA z N E s).1 (atomA z N E s).2

def op2 (x : List UInt8) (a b : Tr) : Tr := nm 18 a.pos x [a, b]

def mulsA (E : RS → Tr × RS) : Nat → Tr → RS → Tr × RS
  | 0, a, s => (a, stuckA s)
  | n + 1, a, s => if isA s_star s then mulsA E n (op2 s_star a (appA z N E (nextA z s)).1) (appA z N E (nextA z s)).2 else (a, s)
def mulA (E : RS → Tr × RS) (s : RS) : Tr × RS := mulsA z N E N (appA z N E s).1 (appA z N E s).2

def sumsA (E : RS → Tr × RS) : Nat → Tr → RS → Tr × RS
  | 0, a, s => (a, stuckA s)
  | n + 1, a, s =>
    if isA s_plus s then sumsA E n (op2 s.t.text a (mulA z N E (nextA z s)).1) (mulA z N E (nextA z s)).2
    else if isA s_minus s then sumsA E n (op2 s.t.text a (mulA z N E (nextA z s)).1) (mulA z N E (nextA z s)).2
    else (a, s)
def sumA (E : RS → Tr × RS) (s : RS) : Tr × RS := sumsA z N E N (mulA z N E s).1 (mulA z N E s).2

def consA (E : RS → Tr × RS) : Nat → RS → Tr × RS
  | 0, s => (zT, stuckA s)
  | n + 1, s =>
    let a := sumA z N E s
    if isA s_cons a.2 then
      let b := consA E n (nextA z a.2)
      (nd 16 a.1.pos [a.1, b.1], b.2)
    else a

def compA (E : RS → Tr × RS) (s : RS) : Tr × RS :=
  let a := consA z N E N s
  if isA s_eqeq a.2 then
    let b := consA z N E N (nextA z a.2)
    (op2 s_eqeq a.1 b.1, b.2)
  else if isA s_lt a.2 then
    let b := consA z N E N (nextA z a.2)
    (op2 s_lt a.1 b.1, b.2)
  else a

def letA (E : RS → Tr × RS) (p : Nat) (s : RS) : Tr × RS :=
  let r := isA w_rec s
  let x := nameA z (hasA z w_rec s)
  let a := paramsA z E s_eq N r x.2
  let b := E (mustA z w_in a.2)
  (.mk 9 p x.1.1 (if r then 1 else 0) [a.1, b.1], b.2)

def casesA (E : RS → Tr × RS) (p : Nat) (s : RS) : Tr × RS :=
  let e := E s
  let a := E (mustA z s_to (mustA z s_rs (mustA z s_ls (mustA z w_of e.2))))
  let x := nameA z (mustA z s_bar a.2)
  let y := nameA z (mustA z s_cons x.2)
  let b := E (mustA z s_to y.2)
  (nd 17 p [e.1, a.1, nm 23 x.1.2 x.1.1 [], nm 23 y.1.2 y.1.1 [], b.1], mustA z w_end b.2)

def clausesA (E : RS → Tr × RS) : Nat → List Tr → RS → List Tr × RS
  | 0, l, s => (l, stuckA s)
  | n + 1, l, s =>
    if isA s_bar s then
      let o := nameA z (nextA z s)
      let y := nameA z o.2
      let k := nameA z y.2
      let c := E (mustA z s_to k.2)
      clausesA E n (l ++ [nm 22 o.1.2 o.1.1 [nm 23 y.1.2 y.1.1 [], nm 23 k.1.2 k.1.1 [], c.1]]) c.2
    else (l, s)

def handleA (E : RS → Tr × RS) (p : Nat) (s : RS) : Tr × RS :=
  let deep := isA w_handle s
  let e := E (nextA z s)
  let u := mustA z s_lb (mustA z w_with e.2)
  let x := nameA z (mustA z w_return u)
  let b := E (mustA z s_to x.2)
  let l := clausesA z E N [e.1, nm 21 u.t.pos x.1.1 [b.1]] b.2
  (.mk 20 p [] (if deep then 0 else 1) l.1, mustA z s_rb l.2)

def anyA (E : RS → Tr × RS) (s : RS) : Tr × RS :=
  if isA w_let s then letA z N E s.t.pos (nextA z s)
  else if isA w_fn s then
    let e := paramsA z E s_to N true (nextA z s)
    (e.1.at s.t.pos, e.2)
  else if isA w_if s then
    let a := E (nextA z s)
    let b := E (mustA z w_then a.2)
    let c := E (mustA z w_else b.2)
    (nd 11 s.t.pos [a.1, b.1, c.1], c.2)
  else if isA w_case s then casesA z E s.t.pos (nextA z s)
  else if isA w_handle s || isA w_shallow s then handleA z N E s.t.pos s
  else
    let a := compA z N E s
    if isA s_semi a.2 then
      let b := E (nextA z a.2)
      (nd 10 a.1.pos [a.1, b.1], b.2)
    else a

def exprA : Nat → RS → Tr × RS
  | 0, s => if okA s then (zT, deepA s) else (zT, s)
  | k + 1, s => if okA s then anyA z N (exprA k) s else (zT, s)

/- programs -/
def opsA : Nat → List Tr → RS → List Tr × RS
  | 0, l, s => (l, stuckA s)
  | n + 1, l, s =>
    if isA w_op s then
      let u := nextA z s
      let once := isA w_once u
      let v := if once || isA w_many u then nextA z u else noA u
      let x := nameA z v
      let a := typA z N 200 (mustA z s_colon x.2)
      let b := typA z N 200 (mustA z s_to a.2)
      opsA n (l ++ [.mk 1 s.t.pos x.1.1 (if once then 1 else 0) [a.1, b.1]]) b.2
    else (l, s)

def defsA : Nat → List Tr → RS → List Tr × RS
  | 0, l, s => (l, stuckA s)
  | n + 1, l, s =>
    if isA w_def s then
      let u := nextA z s
      let r := isA w_rec u
      let x := nameA z (hasA z w_rec u)
      let e := paramsA z (exprA z N 200) s_eq N true x.2
      defsA n (l ++ [.mk 2 s.t.pos x.1.1 (if r then 1 else 0) [e.1]]) e.2
    else (l, s)

def progA (s : RS) : Tr × RS :=
  let o := opsA z N N [] s
  let d := defsA z N N o.1 o.2
  let e := exprA z N 200 (mustA z s_eq (mustA z w_main d.2))
  (.mk 0 0 [] o.1.length (d.1 ++ [e.1]), e.2)

/-- What the reader answers: a tree and no fault, or the tree of nothing and the fault. -/
def parseA (s0 : RS) : Tr × (Nat × Nat) :=
  let n := progA z N (nextA z s0)
  let u := if okA n.2 && n.2.t.kind != 0 then noA n.2 else n.2
  if okA u then (n.1, (0, 0)) else (zT, u.f)
end A
end Sy
end Go.Proofs.YtedppdcknkcbjaaGreatDoor
