/-
  Three small words that all the texts use.
  What tokens a text has, said by plain functions on lists of bytes; no program is named here.
  The tokens of a text up to its first fault, and that fault: plain functions on lists of bytes; no program is named here.
  How a list of tokens is read into a tree, said by plain functions; no program is named here. The functions that end in A go on behind a fault, with the fault kept; those that end in B stop at it.
  The tokens that the program's printer says of a tree, as plain functions; no program is named here.
  How a list of tokens is read into a tree by a reader that stops at its first fault, said by plain functions; no program is named here.
  The two readers of tokens come to the same: plain laws, no program is named here.
  Trees that may have been read: what stands where, how many nodes there are, how high they stand; no program is named here.
-/
import Derived.Test.YtoajnlhegallpaaGreatDoorProg
import Derived.WalkSpells
import Derived.WalkKit
set_option linter.unusedVariables false
set_option linter.unusedSimpArgs false
namespace Go.Proofs.YtoajnlhegallpaaGreatDoor
open Go.RowKit

theorem hid {p : Prop} (h : p) : Hid p := h
theorem ret_bool {a b : Bool} (h : a = b) : Ending.returned (.bool a) = .returned (.bool b) := by rw [h]
theorem ret_int {k : IntKind} {a b : Int} (h : a = b) : Ending.returned (.int k a) = .returned (.int k b) := by rw [h]

namespace Lx

def isDig (c : UInt8) : Bool := decide (48 ≤ c.toNat) && decide (c.toNat ≤ 57)
def isLet (c : UInt8) : Bool := ((decide (97 ≤ c.toNat) && decide (c.toNat ≤ 122)) || (decide (65 ≤ c.toNat) && decide (c.toNat ≤ 90))) || c.toNat == 95
def isBl (c : UInt8) : Bool := ((c.toNat == 9 || c.toNat == 10) || c.toNat == 13) || c.toNat == 32
def isNm (c : UInt8) : Bool := isLet c || isDig c
def notNl (c : UInt8) : Bool := c.toNat != 10
def sigBytes : List UInt8 := [40, 41, 91, 93, 123, 125, 44, 59, 58, 61, 45, 43, 42, 60, 124, 126]
def isSg (c : UInt8) : Bool := sigBytes.contains c
def twos : List (List UInt8) := [[58, 58], [61, 61], [61, 62], [45, 62]]
def wordList : List (List UInt8) :=
 [[111, 112], [111, 110, 99, 101], [109, 97, 110, 121], [100, 101, 102], [114, 101, 99], [109, 97, 105, 110], [108, 101, 116], [105, 110], [102, 110], [105, 102],
  [116, 104, 101, 110], [101, 108, 115, 101], [99, 97, 115, 101], [111, 102], [101, 110, 100], [100, 111], [102, 115, 116], [115, 110, 100], [104, 97, 110, 100, 108, 101],
  [115, 104, 97, 108, 108, 111, 119], [119, 105, 116, 104], [114, 101, 116, 117, 114, 110], [116, 114, 117, 101], [102, 97, 108, 115, 101], [105, 110, 116], [98, 111, 111, 108],
  [117, 110, 105, 116], [108, 105, 115, 116]]
def isWd (l : List UInt8) : Bool := wordList.contains l

structure Tk where
 kind : Nat
 pos : Nat
 text : List UInt8
 num : Nat

def numVal (l : List UInt8) : Nat := l.foldl (fun a c => 10 * a + (c.toNat - 48)) 0
def okNum (l : List UInt8) : Bool := !(decide (1 < l.length) && l.head? == some 48) && decide (numVal l ≤ 9223372036854775807)
def signLen (l : List UInt8) : Nat := if twos.contains (l.take 2) then 2 else 1

def tokAt (pos : Nat) (l : List UInt8) : Except (Nat × Nat) (Tk × Nat) :=
 if (l.head?.map isDig).getD false then
  (if okNum (l.takeWhile isDig) then .ok (⟨1, pos, [], numVal (l.takeWhile isDig)⟩, (l.takeWhile isDig).length) else .error (3, pos))
 else if (l.head?.map isLet).getD false then
  (if (l.takeWhile isNm).length ≤ 20 then .ok (⟨if isWd (l.takeWhile isNm) then 3 else 2, pos, l.takeWhile isNm, 0⟩, (l.takeWhile isNm).length) else .error (3, pos))
 else if (l.head?.map isSg).getD false then .ok (⟨4, pos, l.take (signLen l), 0⟩, signLen l)
 else .error (2, pos)

def consTo (t : Tk) : Except (Nat × Nat) (List Tk) → Except (Nat × Nat) (List Tk)
 | .error e => .error e
 | .ok ts => .ok (t :: ts)

def appTo (a : List Tk) : Except (Nat × Nat) (List Tk) → Except (Nat × Nat) (List Tk)
 | .error e => .error e
 | .ok ts => .ok (a ++ ts)

def lexF (N : Nat) : Nat → Nat → List UInt8 → Except (Nat × Nat) (List Tk)
 | 0, _, _ => .error (0, 0)
 | _ + 1, _, [] => .ok [⟨0, N, [], 0⟩]
 | f + 1, pos, c :: r =>
  if isBl c then lexF N f (pos + 1) r
  else if c.toNat = 35 then lexF N f (pos + ((c :: r).takeWhile notNl).length) ((c :: r).dropWhile notNl)
  else match tokAt pos (c :: r) with
   | .error e => .error e
   | .ok (t, n) => consTo t (lexF N f (pos + n) ((c :: r).drop n))

theorem tokAt_dig (pos : Nat) (c : UInt8) (r : List UInt8) (h : isDig c = true) : tokAt pos (c :: r) =
  (if okNum ((c :: r).takeWhile isDig) then .ok (⟨1, pos, [], numVal ((c :: r).takeWhile isDig)⟩, ((c :: r).takeWhile isDig).length) else .error (3, pos)) := by
 simp only [tokAt, List.head?_cons, Option.map_some, Option.getD_some, h, if_true]

theorem tokAt_let (pos : Nat) (c : UInt8) (r : List UInt8) (h0 : isDig c = false) (h : isLet c = true) : tokAt pos (c :: r) =
  (if ((c :: r).takeWhile isNm).length ≤ 20 then .ok (⟨if isWd ((c :: r).takeWhile isNm) then 3 else 2, pos, (c :: r).takeWhile isNm, 0⟩, ((c :: r).takeWhile isNm).length) else .error (3, pos)) := by
 simp only [tokAt, List.head?_cons, Option.map_some, Option.getD_some, h0, h, if_true, Bool.false_eq_true, if_false]

theorem tokAt_sg (pos : Nat) (c : UInt8) (r : List UInt8) (h0 : isDig c = false) (h1 : isLet c = false) (h : isSg c = true) : tokAt pos (c :: r) =
  .ok (⟨4, pos, (c :: r).take (signLen (c :: r)), 0⟩, signLen (c :: r)) := by
 simp only [tokAt, List.head?_cons, Option.map_some, Option.getD_some, h0, h1, h, if_true, Bool.false_eq_true, if_false]

theorem tokAt_no (pos : Nat) (c : UInt8) (r : List UInt8) (h0 : isDig c = false) (h1 : isLet c = false) (h : isSg c = false) : tokAt pos (c :: r) = .error (2, pos) := by
 simp only [tokAt, List.head?_cons, Option.map_some, Option.getD_some, h0, h1, h, Bool.false_eq_true, if_false]

theorem signLen_le (c : UInt8) (r : List UInt8) : 1 ≤ signLen (c :: r) ∧ signLen (c :: r) ≤ (c :: r).length := by
 unfold signLen
 by_cases h3 : twos.contains ((c :: r).take 2) = true
 ·rw [if_pos h3]
  refine ⟨by omega, ?_⟩
  cases r with
  | nil =>
   exfalso
   simp [twos] at h3
  | cons a b => simp
 ·rw [if_neg h3]
  simp

theorem tokAt_pos {pos : Nat} {c : UInt8} {r : List UInt8} {t : Tk} {n : Nat} (h : tokAt pos (c :: r) = .ok (t, n)) : 1 ≤ n ∧ n ≤ (c :: r).length := by
 cases h1 : isDig c with
 | true =>
  rw [tokAt_dig pos c r h1] at h
  by_cases h2 : okNum ((c :: r).takeWhile isDig) = true
  ·rw [if_pos h2] at h
   simp only [Except.ok.injEq, Prod.mk.injEq] at h
   rw [← h.2]
   exact ⟨by simp [h1], (List.takeWhile_sublist _).length_le⟩
  ·rw [if_neg h2] at h
   cases h
 | false =>
  cases h2 : isLet c with
  | true =>
   rw [tokAt_let pos c r h1 h2] at h
   by_cases h3 : ((c :: r).takeWhile isNm).length ≤ 20
   ·rw [if_pos h3] at h
    simp only [Except.ok.injEq, Prod.mk.injEq] at h
    rw [← h.2]
    exact ⟨by simp [isNm, h2], (List.takeWhile_sublist _).length_le⟩
   ·rw [if_neg h3] at h
    cases h
  | false =>
   cases h3 : isSg c with
   | true =>
    rw [tokAt_sg pos c r h1 h2 h3] at h
    simp only [Except.ok.injEq, Prod.mk.injEq] at h
    rw [← h.2]
    exact signLen_le c r
   | false =>
    rw [tokAt_no pos c r h1 h2 h3] at h
    cases h

theorem dropWhile_len (c : UInt8) (r : List UInt8) (h : c.toNat = 35) : ((c :: r).dropWhile notNl).length ≤ r.length := by
 have : notNl c = true := by simp [notNl, h]
 simp only [List.dropWhile_cons, this, if_true]
 exact (List.dropWhile_sublist _).length_le

theorem lexF_fuel (N : Nat) : ∀ (f g pos : Nat) (l : List UInt8), l.length < f → l.length < g → lexF N f pos l = lexF N g pos l := by
 intro f
 induction f with
 | zero => intro g pos l h; omega
 | succ f ih =>
  intro g pos l h1 h2
  obtain ⟨g, rfl⟩ : ∃ k, g = k + 1 := ⟨g - 1, by omega⟩
  cases l with
  | nil => simp [lexF]
  | cons c r =>
   simp only [List.length_cons] at h1 h2
   simp only [lexF]
   split
   ·exact ih _ _ _ (by omega) (by omega)
   ·split
    ·rename_i h3
     have := dropWhile_len c r h3
     exact ih _ _ _ (by omega) (by omega)
    ·cases hT : tokAt pos (c :: r) with
     | error e => rfl
     | ok x =>
      obtain ⟨t, n⟩ := x
      have := tokAt_pos hT
      simp only [List.length_cons] at this
      simp only []
      rw [ih g (pos + n) ((c :: r).drop n) (by simp; omega) (by simp; omega)]

def lex (N pos : Nat) (l : List UInt8) : Except (Nat × Nat) (List Tk) := lexF N (l.length + 1) pos l

theorem lex_nil (N pos : Nat) : lex N pos [] = .ok [⟨0, N, [], 0⟩] := by simp [lex, lexF]

theorem lex_blank (N pos : Nat) (c : UInt8) (r : List UInt8) (h : isBl c = true) : lex N pos (c :: r) = lex N (pos + 1) r := by
 show lexF N (r.length + 1 + 1) pos (c :: r) = _
 simp only [lexF, h, if_true]
 rfl

def lexRem (N pos : Nat) (l : List UInt8) : Except (Nat × Nat) (List Tk) := lex N (pos + (l.takeWhile notNl).length) (l.dropWhile notNl)

theorem lex_hash (N pos : Nat) (c : UInt8) (r : List UInt8) (h : c.toNat = 35) : lex N pos (c :: r) = lexRem N pos (c :: r) := by
 have hb : isBl c = false := by simp [isBl, h]
 have hd := dropWhile_len c r h
 unfold lexRem
 show lexF N (r.length + 1 + 1) pos (c :: r) = lexF N _ _ _
 rw [lexF]
 simp only [hb, Bool.false_eq_true, if_false, h, if_true]
 exact lexF_fuel N _ _ _ _ (by omega) (by omega)

theorem lex_err (N pos : Nat) (c : UInt8) (r : List UInt8) (h1 : isBl c = false) (h2 : c.toNat ≠ 35) {e : Nat × Nat} (h : tokAt pos (c :: r) = .error e) : lex N pos (c :: r) = .error e := by
 show lexF N (r.length + 1 + 1) pos (c :: r) = _
 simp only [lexF, h1, h2, h, Bool.false_eq_true, if_false]

theorem lex_tok (N pos : Nat) (c : UInt8) (r : List UInt8) (h1 : isBl c = false) (h2 : c.toNat ≠ 35) {t : Tk} {n : Nat} (h : tokAt pos (c :: r) = .ok (t, n)) :
  lex N pos (c :: r) = consTo t (lex N (pos + n) ((c :: r).drop n)) := by
 have hp := tokAt_pos h
 simp only [List.length_cons] at hp
 show lexF N (r.length + 1 + 1) pos (c :: r) = _
 simp only [lexF, h1, h2, h, Bool.false_eq_true, if_false]
 rw [lex, lexF_fuel N (r.length + 1) (((c :: r).drop n).length + 1) _ _ (by simp; omega) (by omega)]

theorem appTo_cons (a : List Tk) (t : Tk) (x : Except (Nat × Nat) (List Tk)) : appTo a (consTo t x) = appTo (a ++ [t]) x := by
 cases x <;> simp [appTo, consTo]
theorem appTo_nil (x : Except (Nat × Nat) (List Tk)) : appTo [] x = x := by cases x <;> simp [appTo]

end Lx

namespace Lx

def tcons (t : Tk) (x : List Tk × (Nat × Nat)) : List Tk × (Nat × Nat) := (t :: x.1, x.2)

def toksF : Nat → Nat → List UInt8 → List Tk × (Nat × Nat)
 | 0, _, _ => ([], (0, 0))
 | _ + 1, _, [] => ([], (0, 0))
 | f + 1, pos, c :: r =>
  if isBl c then toksF f (pos + 1) r
  else if c.toNat = 35 then toksF f (pos + ((c :: r).takeWhile notNl).length) ((c :: r).dropWhile notNl)
  else match tokAt pos (c :: r) with
   | .error e => ([], e)
   | .ok (t, n) => tcons t (toksF f (pos + n) ((c :: r).drop n))

theorem toksF_fuel : ∀ (f g pos : Nat) (l : List UInt8), l.length < f → l.length < g → toksF f pos l = toksF g pos l := by
 intro f
 induction f with
 | zero => intro g pos l h; omega
 | succ f ih =>
  intro g pos l h1 h2
  obtain ⟨g, rfl⟩ : ∃ k, g = k + 1 := ⟨g - 1, by omega⟩
  cases l with
  | nil => simp [toksF]
  | cons c r =>
   simp only [List.length_cons] at h1 h2
   simp only [toksF]
   split
   ·exact ih _ _ _ (by omega) (by omega)
   ·split
    ·rename_i h3
     have := dropWhile_len c r h3
     exact ih _ _ _ (by omega) (by omega)
    ·cases hT : tokAt pos (c :: r) with
     | error e => rfl
     | ok x =>
      obtain ⟨t, n⟩ := x
      have := tokAt_pos hT
      simp only [List.length_cons] at this
      simp only []
      rw [ih g (pos + n) ((c :: r).drop n) (by simp; omega) (by simp; omega)]

def toks (_N pos : Nat) (l : List UInt8) : List Tk × (Nat × Nat) := toksF (l.length + 1) pos l

theorem toks_nil (N pos : Nat) : toks N pos [] = ([], (0, 0)) := by simp [toks, toksF]

theorem toks_blank (N pos : Nat) (c : UInt8) (r : List UInt8) (h : isBl c = true) : toks N pos (c :: r) = toks N (pos + 1) r := by
 show toksF (r.length + 1 + 1) pos (c :: r) = _
 simp only [toksF, h, if_true]
 rfl

def toksRem (N pos : Nat) (l : List UInt8) : List Tk × (Nat × Nat) := toks N (pos + (l.takeWhile notNl).length) (l.dropWhile notNl)

theorem toks_hash (N pos : Nat) (c : UInt8) (r : List UInt8) (h : c.toNat = 35) : toks N pos (c :: r) = toksRem N pos (c :: r) := by
 have hb : isBl c = false := by simp [isBl, h]
 have hd := dropWhile_len c r h
 unfold toksRem
 show toksF (r.length + 1 + 1) pos (c :: r) = toksF _ _ _
 rw [toksF]
 simp only [hb, Bool.false_eq_true, if_false, h, if_true]
 exact toksF_fuel _ _ _ _ (by omega) (by omega)

theorem toks_tok (N pos : Nat) (c : UInt8) (r : List UInt8) (h1 : isBl c = false) (h2 : c.toNat ≠ 35) {t : Tk} {n : Nat} (h : tokAt pos (c :: r) = .ok (t, n)) :
  toks N pos (c :: r) = tcons t (toks N (pos + n) ((c :: r).drop n)) := by
 have hp := tokAt_pos h
 simp only [List.length_cons] at hp
 show toksF (r.length + 1 + 1) pos (c :: r) = _
 simp only [toksF, h1, h2, h, Bool.false_eq_true, if_false]
 rw [toks, toksF_fuel (r.length + 1) (((c :: r).drop n).length + 1) _ _ (by simp; omega) (by omega)]

end Lx

namespace Sy
open Lx

inductive Tr where
 | mk (kind pos : Nat) (name : List UInt8) (num : Int) (kids : List Tr)

def Tr.pos : Tr → Nat
 | .mk _ p _ _ _ => p
def Tr.kind : Tr → Nat
 | .mk k _ _ _ _ => k
def Tr.name : Tr → List UInt8
 | .mk _ _ x _ _ => x
def Tr.num : Tr → Int
 | .mk _ _ _ n _ => n
def Tr.kids : Tr → List Tr
 | .mk _ _ _ _ l => l
def Tr.at : Tr → Nat → Tr
 | .mk k _ m n l, p => .mk k p m n l
def zT : Tr := .mk 0 0 [] 0 []
def nd (k p : Nat) (l : List Tr) : Tr := .mk k p [] 0 l
def nm (k p : Nat) (x : List UInt8) (l : List Tr) : Tr := .mk k p x 0 l

structure Env where
 fin : Nat × Nat
 stop : Nat

def endTk (z : Env) : Tk := ⟨0, z.stop, [], 0⟩
structure RS where
 t : Tk
 rest : List Tk
 f : Nat × Nat

def okA (s : RS) : Bool := s.f.1 == 0
def w_op : List UInt8 := [111, 112]
def w_once : List UInt8 := [111, 110, 99, 101]
def w_many : List UInt8 := [109, 97, 110, 121]
def w_def : List UInt8 := [100, 101, 102]
def w_rec : List UInt8 := [114, 101, 99]
def w_main : List UInt8 := [109, 97, 105, 110]
def w_let : List UInt8 := [108, 101, 116]
def w_in : List UInt8 := [105, 110]
def w_fn : List UInt8 := [102, 110]
def w_if : List UInt8 := [105, 102]
def w_then : List UInt8 := [116, 104, 101, 110]
def w_else : List UInt8 := [101, 108, 115, 101]
def w_case : List UInt8 := [99, 97, 115, 101]
def w_of : List UInt8 := [111, 102]
def w_end : List UInt8 := [101, 110, 100]
def w_do : List UInt8 := [100, 111]
def w_fst : List UInt8 := [102, 115, 116]
def w_snd : List UInt8 := [115, 110, 100]
def w_handle : List UInt8 := [104, 97, 110, 100, 108, 101]
def w_shallow : List UInt8 := [115, 104, 97, 108, 108, 111, 119]
def w_with : List UInt8 := [119, 105, 116, 104]
def w_return : List UInt8 := [114, 101, 116, 117, 114, 110]
def w_true : List UInt8 := [116, 114, 117, 101]
def w_false : List UInt8 := [102, 97, 108, 115, 101]
def w_int : List UInt8 := [105, 110, 116]
def w_bool : List UInt8 := [98, 111, 111, 108]
def w_unit : List UInt8 := [117, 110, 105, 116]
def w_list : List UInt8 := [108, 105, 115, 116]
def s_lp : List UInt8 := [40]
def s_rp : List UInt8 := [41]
def s_ls : List UInt8 := [91]
def s_rs : List UInt8 := [93]
def s_lb : List UInt8 := [123]
def s_rb : List UInt8 := [125]
def s_comma : List UInt8 := [44]
def s_semi : List UInt8 := [59]
def s_colon : List UInt8 := [58]
def s_eq : List UInt8 := [61]
def s_minus : List UInt8 := [45]
def s_plus : List UInt8 := [43]
def s_star : List UInt8 := [42]
def s_lt : List UInt8 := [60]
def s_bar : List UInt8 := [124]
def s_tilde : List UInt8 := [126]
def s_cons : List UInt8 := [58, 58]
def s_eqeq : List UInt8 := [61, 61]
def s_to : List UInt8 := [61, 62]
def s_arrow : List UInt8 := [45, 62]

section A
variable (z : Env) (N : Nat)

/- types -/
def consUp (l : List Tr) (e : Tr) : Tr := l.foldr (fun a b => nd 16 a.pos [a, b]) e

def op2 (x : List UInt8) (a b : Tr) : Tr := nm 18 a.pos x [a, b]

end A
end Sy

open Sy (Tr)

def levP (k : Int) (x : List UInt8) : Int :=
 if k = 9 ∨ k = 7 ∨ k = 11 ∨ k = 17 ∨ k = 20 ∨ k = 10 ∨ k = 29 then 0 else if k = 28 then 1 else if k = 16 ∨ k = 27 then 2 else if k = 8 ∨ k = 19 ∨ k = 13 ∨ k = 14 then 5
 else if k = 18 then (if x = [43] ∨ x = [45] then 3 else if x = [42] then 4 else 1) else 6
def rowTk : List (List UInt8) → List (List UInt8)
 | [] => []
 | x :: r => [45] :: [123] :: x :: r.flatMap fun y => [[44], y]
def arrTk (ns : List (List UInt8)) : List (List UInt8) := (if ns = [] then [] else rowTk ns ++ [[125]]) ++ [[45, 62]]
def Sy.dig (n : Nat) : List UInt8 := if h : n < 10 then [(48 + n).toUInt8] else Sy.dig (n / 10) ++ [(48 + n % 10).toUInt8]
termination_by n
def kid0 (t : Tr) : Tr := t.kids.getD 0 Sy.zT
def inP (f : Tr → List (List UInt8)) (t : Tr) (least : Int) : List (List UInt8) := if least ≤ levP t.kind t.name then f t else [40] :: f t ++ [[41]]
def numTk (m : Int) : List (List UInt8) := if m < 0 then [[126], Sy.dig m.natAbs] else [Sy.dig m.natAbs]
def leafTk (k m : Int) (x : List UInt8) : List (List UInt8) :=
 if k = 4 then [if m = 1 then [116, 114, 117, 101] else [102, 97, 108, 115, 101]] else if k = 5 then [[40], [41]] else if k = 6 ∨ k = 23 then [x] else if k = 15 then [[91], [93]]
 else if k = 24 then [[105, 110, 116]] else if k = 25 then [[98, 111, 111, 108]] else [[117, 110, 105, 116]]
def itemTk (f : Tr → List (List UInt8)) (t : Tr) : List (List UInt8) :=
 if t.kind = 1 then [[111, 112]] ++ [if t.num = 1 then [111, 110, 99, 101] else [109, 97, 110, 121]] ++ [t.name] ++ ([58] :: f (t.kids.getD 0 Sy.zT)) ++ ([61, 62] :: f (t.kids.getD 1 Sy.zT))
 else if t.num = 1 then [[100, 101, 102]] ++ [[114, 101, 99]] ++ [t.name] ++ [(kid0 t).name] ++ ([61] :: f (kid0 (kid0 t)))
 else [[100, 101, 102]] ++ [t.name] ++ [(kid0 t).name] ++ ([61] :: f (kid0 (kid0 t)))
def clauseTk (f : Tr → List (List UInt8)) (t : Tr) : List (List UInt8) := [t.name, (t.kids.getD 0 Sy.zT).name, (t.kids.getD 1 Sy.zT).name] ++ ([61, 62] :: f (t.kids.getD 2 Sy.zT))
def opTk (x : List UInt8) (f : Tr → List (List UInt8)) (a b : Tr) : List (List UInt8) :=
 if x = [43] ∨ x = [45] then inP f a 3 ++ [x] ++ inP f b 4 else if x = [42] then inP f a 4 ++ [x] ++ inP f b 5 else inP f a 2 ++ [x] ++ inP f b 2
def tk : Nat → Tr → List (List UInt8)
 | 0, _ => []
 | n + 1, t =>
  let a := t.kids.getD 0 Sy.zT
  let b := t.kids.getD 1 Sy.zT
  let k := t.kind
  if k = 0 then (t.kids.dropLast).flatMap (itemTk (tk n)) ++ [[109, 97, 105, 110]] ++ ([61] :: tk n (t.kids.getLastD Sy.zT))
  else if k = 3 then numTk t.num
  else if k = 7 then [[102, 110], t.name] ++ ([61, 62] :: tk n a)
  else if k = 8 then (if a.kind = 8 then tk n a else inP (tk n) a 6) ++ inP (tk n) b 6
  else if k = 9 then
   (if t.num = 1 then ([[108, 101, 116]] ++ [[114, 101, 99]] ++ [t.name] ++ [a.name] ++ ([61] :: tk n (kid0 a))) ++ ([105, 110] :: tk n b)
    else ([[108, 101, 116]] ++ [t.name] ++ ([61] :: tk n a)) ++ ([105, 110] :: tk n b))
  else if k = 10 then inP (tk n) a 1 ++ [[59]] ++ tk n b
  else if k = 11 then ([105, 102] :: tk n a) ++ ([116, 104, 101, 110] :: tk n b) ++ ([101, 108, 115, 101] :: tk n (t.kids.getD 2 Sy.zT))
  else if k = 12 then ([40] :: tk n a) ++ ([44] :: tk n b) ++ [[41]]
  else if k = 13 then [[102, 115, 116]] ++ inP (tk n) a 6
  else if k = 14 then [[115, 110, 100]] ++ inP (tk n) a 6
  else if k = 16 then inP (tk n) a 3 ++ [[58, 58]] ++ inP (tk n) b 2
  else if k = 17 then ([99, 97, 115, 101] :: tk n a) ++ [[111, 102], [91], [93]] ++ ([61, 62] :: tk n b) ++ [[124], (t.kids.getD 2 Sy.zT).name, [58, 58], (t.kids.getD 3 Sy.zT).name] ++ ([61, 62] :: tk n (t.kids.getD 4 Sy.zT)) ++ [[101, 110, 100]]
  else if k = 18 then opTk t.name (tk n) a b
  else if k = 19 then [[100, 111], t.name] ++ inP (tk n) a 6
  else if k = 20 then ((if t.num = 1 then [115, 104, 97, 108, 108, 111, 119] else [104, 97, 110, 100, 108, 101]) :: tk n a) ++ [[119, 105, 116, 104]] ++ ([123] :: ([[114, 101, 116, 117, 114, 110], b.name] ++ ([61, 62] :: tk n (kid0 b)))) ++ (t.kids.drop 2).flatMap (fun q => [124] :: clauseTk (tk n) q) ++ [[125]]
  else if k = 27 then inP (tk n) a 2 ++ [[108, 105, 115, 116]]
  else if k = 28 then inP (tk n) a 2 ++ [[42]] ++ inP (tk n) b 1
  else if k = 29 then inP (tk n) a 1 ++ arrTk ((t.kids.drop 2).map Tr.name) ++ tk n b
  else leafTk k t.num t.name

namespace Sy
open Lx

abbrev R (α : Type) := Except (Nat × Nat) (α × List Tk)
def bnd {α β : Type} (x : R α) (f : α → List Tk → R β) : R β :=
 match x with
 | .error e => .error e
 | .ok (a, ts) => f a ts

section B
variable (z : Env) (N : Nat)

def lookB (ts : List Tk) : R Tk :=
 match ts with
 | t :: r => .ok (t, t :: r)
 | [] => if z.fin.1 = 0 then .ok (endTk z, []) else .error z.fin
def iteB {α : Type} (x : List UInt8) (ts : List Tk) (yes no : List Tk → R α) : R α := bnd (lookB z ts) fun t _ => if t.text == x then yes ts.tail else no ts
def needB (x : List UInt8) (ts : List Tk) : R Unit := bnd (lookB z ts) fun t _ => if t.text == x then .ok ((), ts.tail) else .error (4, t.pos)
def kindB (k : Nat) (ts : List Tk) : R Tk := bnd (lookB z ts) fun t _ => if t.kind == k then .ok (t, ts.tail) else .error (4, t.pos)
def takeB (ts : List Tk) : R Tk := bnd (lookB z ts) fun t _ => .ok (t, ts.tail)
def namedB (ts : List Tk) : R Tr := bnd (kindB z 2 ts) fun t ts => .ok (nm 23 t.pos t.text [], ts)
def namesB (least : Nat) : Nat → List Tk → List Tk → R (List Tk)
 | 0, _, ts => bnd (lookB z ts) fun _ _ => .error (99, 0)
 | n + 1, l, ts =>
  if l.length < least then bnd (kindB z 2 ts) fun t ts => namesB least n (l ++ [t]) ts
  else bnd (lookB z ts) fun t _ => if t.kind == 2 then bnd (kindB z 2 ts) fun t ts => namesB least n (l ++ [t]) ts else .ok (l, ts)
def fns (l : List Tk) (b : Tr) : Tr := l.foldr (fun t b => nm 7 t.pos t.text [b]) b

/- types -/
def rowB : Nat → List Tr → List Tk → R (List Tr)
 | 0, _, ts => bnd (lookB z ts) fun _ _ => .error (99, 0)
 | n + 1, l, ts => bnd (namedB z ts) fun x ts => iteB z s_comma ts (fun ts => rowB n (l ++ [x]) ts) (fun ts => .ok (l ++ [x], ts))
def listsB : Nat → Tr → List Tk → R Tr
 | 0, _, ts => bnd (lookB z ts) fun _ _ => .error (99, 0)
 | n + 1, a, ts => iteB z w_list ts (fun ts => listsB n (nd 27 a.pos [a]) ts) (fun ts => .ok (a, ts))
def tatomB (T : List Tk → R Tr) (ts : List Tk) : R Tr :=
 bnd (lookB z ts) fun t _ =>
  if t.text == s_lp then bnd (T ts.tail) fun a ts => bnd (needB z s_rp ts) fun _ ts => .ok (a, ts)
  else if t.text == w_int then .ok (nd 24 t.pos [], ts.tail)
  else if t.text == w_bool then .ok (nd 25 t.pos [], ts.tail)
  else if t.text == w_unit then .ok (nd 26 t.pos [], ts.tail)
  else .error (4, t.pos)
def someB (T : List Tk → R Tr) (ts : List Tk) : R Tr := bnd (tatomB z T ts) fun a ts => listsB z N a ts
def pairB (T : List Tk → R Tr) : Nat → List Tk → R Tr
 | 0, ts => bnd (lookB z ts) fun _ _ => .error (99, 0)
 | n + 1, ts => bnd (someB z N T ts) fun a ts => iteB z s_star ts (fun ts => bnd (pairB T n ts) fun b ts => .ok (nd 28 a.pos [a, b], ts)) (fun ts => .ok (a, ts))
def typBodyB (T : List Tk → R Tr) (ts : List Tk) : R Tr :=
 bnd (pairB z N T N ts) fun a ts =>
  iteB z s_minus ts
   (fun ts => bnd (needB z s_lb ts) fun _ ts => bnd (rowB z N [] ts) fun l ts => bnd (needB z s_rb ts) fun _ ts => bnd (needB z s_arrow ts) fun _ ts => bnd (T ts) fun b ts => .ok (nd 29 a.pos ([a, b] ++ l), ts))
   (fun ts => iteB z s_arrow ts (fun ts => bnd (T ts) fun b ts => .ok (nd 29 a.pos [a, b], ts)) (fun ts => .ok (a, ts)))
def typB : Nat → List Tk → R Tr
 | 0, ts => bnd (lookB z ts) fun t _ => .error (5, t.pos)
 | k + 1, ts => bnd (lookB z ts) fun _ _ => typBodyB z N (typB k) ts

/- expressions -/
def squaresB (E : List Tk → R Tr) : Nat → List Tr → List Tk → R (List Tr)
 | 0, _, ts => bnd (lookB z ts) fun _ _ => .error (99, 0)
 | n + 1, l, ts => bnd (E ts) fun a ts => iteB z s_comma ts (fun ts => squaresB E n (l ++ [a]) ts) (fun ts => .ok (l ++ [a], ts))
def squareB (E : List Tk → R Tr) (p : Nat) (ts : List Tk) : R Tr :=
 iteB z s_rs ts (fun ts => .ok (nd 15 p [], ts)) (fun ts => bnd (squaresB z E N [] ts) fun l ts => bnd (needB z s_rs ts) fun _ ts => .ok (consUp l (nd 15 p []), ts))
def roundB (E : List Tk → R Tr) (p : Nat) (ts : List Tk) : R Tr :=
 iteB z s_rp ts (fun ts => .ok (nd 5 p [], ts))
  (fun ts => bnd (E ts) fun a ts => iteB z s_comma ts (fun ts => bnd (E ts) fun b ts => bnd (needB z s_rp ts) fun _ ts => .ok (nd 12 p [a, b], ts)) (fun ts => bnd (needB z s_rp ts) fun _ ts => .ok (a, ts)))
def beginsB (t : Tk) : Bool := t.kind == 2 || t.kind == 1 || t.text == s_tilde || t.text == w_true || t.text == w_false || t.text == s_lp || t.text == s_ls
def atomB (E : List Tk → R Tr) (ts : List Tk) : R Tr :=
 bnd (lookB z ts) fun t _ =>
  if t.kind == 2 then .ok (nm 6 t.pos t.text [], ts.tail)
  else if t.kind == 1 then .ok (.mk 3 t.pos [] t.num [], ts.tail)
  else if t.text == s_tilde then bnd (kindB z 1 ts.tail) fun u ts => .ok (.mk 3 t.pos [] (-u.num) [], ts)
  else if t.text == w_true then .ok (.mk 4 t.pos [] 1 [], ts.tail)
  else if t.text == w_false then .ok (nd 4 t.pos [], ts.tail)
  else if t.text == s_lp then roundB z E t.pos ts.tail
  else if t.text == s_ls then squareB z N E t.pos ts.tail
  else .error (4, t.pos)
def appsB (E : List Tk → R Tr) : Nat → Tr → List Tk → R Tr
 | 0, _, ts => bnd (lookB z ts) fun _ _ => .error (99, 0)
 | n + 1, a, ts => bnd (lookB z ts) fun t _ => if beginsB t then bnd (atomB z N E ts) fun b ts => appsB E n (nd 8 a.pos [a, b]) ts else .ok (a, ts)
def appB (E : List Tk → R Tr) (ts : List Tk) : R Tr :=
 bnd (lookB z ts) fun t _ =>
  if t.text == w_do then bnd (kindB z 2 ts.tail) fun x ts => bnd (atomB z N E ts) fun a ts => .ok (nm 19 t.pos x.text [a], ts)
  else if t.text == w_fst then bnd (atomB z N E ts.tail) fun a ts => .ok (nd 13 t.pos [a], ts)
  else if t.text == w_snd then bnd (atomB z N E ts.tail) fun a ts => .ok (nd 14 t.pos [a], ts)
  else bnd (atomB z N E ts) fun a ts => appsB z N E N a ts
def mulsB (E : List Tk → R Tr) : Nat → Tr → List Tk → R Tr
 | 0, _, ts => bnd (lookB z ts) fun _ _ => .error (99, 0)
 | n + 1, a, ts => iteB z s_star ts (fun ts => bnd (appB z N E ts) fun b ts => mulsB E n (op2 s_star a b) ts) (fun ts => .ok (a, ts))
def mulB (E : List Tk → R Tr) (ts : List Tk) : R Tr := bnd (appB z N E ts) fun a ts => mulsB z N E N a ts
def sumsB (E : List Tk → R Tr) : Nat → Tr → List Tk → R Tr
 | 0, _, ts => bnd (lookB z ts) fun _ _ => .error (99, 0)
 | n + 1, a, ts =>
  bnd (lookB z ts) fun t _ =>
   if t.text == s_plus || t.text == s_minus then bnd (mulB z N E ts.tail) fun b ts => sumsB E n (op2 t.text a b) ts
   else .ok (a, ts)
def sumB (E : List Tk → R Tr) (ts : List Tk) : R Tr := bnd (mulB z N E ts) fun a ts => sumsB z N E N a ts
def consB (E : List Tk → R Tr) : Nat → List Tk → R Tr
 | 0, ts => bnd (lookB z ts) fun _ _ => .error (99, 0)
 | n + 1, ts => bnd (sumB z N E ts) fun a ts => iteB z s_cons ts (fun ts => bnd (consB E n ts) fun b ts => .ok (nd 16 a.pos [a, b], ts)) (fun ts => .ok (a, ts))
def compB (E : List Tk → R Tr) (ts : List Tk) : R Tr :=
 bnd (consB z N E N ts) fun a ts =>
  bnd (lookB z ts) fun t _ =>
   if t.text == s_eqeq || t.text == s_lt then bnd (consB z N E N ts.tail) fun b ts => .ok (op2 t.text a b, ts)
   else .ok (a, ts)
def seqB (E : List Tk → R Tr) (ts : List Tk) : R Tr :=
 bnd (compB z N E ts) fun a ts => iteB z s_semi ts (fun ts => bnd (E ts) fun b ts => .ok (nd 10 a.pos [a, b], ts)) (fun ts => .ok (a, ts))
def bindB (E : List Tk → R Tr) (least : Nat) (ts : List Tk) : R (Int × List UInt8 × Tr) :=
 iteB z w_rec ts
  (fun ts => bnd (kindB z 2 ts) fun x ts => bnd (namesB z 1 N [] ts) fun l ts => bnd (needB z s_eq ts) fun _ ts => bnd (E ts) fun b ts => .ok ((1, x.text, fns l b), ts))
  (fun ts => bnd (kindB z 2 ts) fun x ts => bnd (namesB z least N [] ts) fun l ts => bnd (needB z s_eq ts) fun _ ts => bnd (E ts) fun b ts => .ok ((0, x.text, fns l b), ts))
def letB (E : List Tk → R Tr) (ts : List Tk) : R Tr :=
 bnd (takeB z ts) fun t ts => bnd (bindB z N E 0 ts) fun d ts => bnd (needB z w_in ts) fun _ ts => bnd (E ts) fun b ts => .ok (.mk 9 t.pos d.2.1 d.1 [d.2.2, b], ts)
def fnB (E : List Tk → R Tr) (ts : List Tk) : R Tr :=
 bnd (takeB z ts) fun t ts => bnd (namesB z 1 N [] ts) fun l ts => bnd (needB z s_to ts) fun _ ts => bnd (E ts) fun b ts => .ok ((fns l b).at t.pos, ts)
def ifB (E : List Tk → R Tr) (ts : List Tk) : R Tr :=
 bnd (takeB z ts) fun t ts => bnd (E ts) fun a ts => bnd (needB z w_then ts) fun _ ts => bnd (E ts) fun b ts => bnd (needB z w_else ts) fun _ ts => bnd (E ts) fun c ts => .ok (nd 11 t.pos [a, b, c], ts)
def casesB (E : List Tk → R Tr) (ts : List Tk) : R Tr :=
 bnd (takeB z ts) fun t ts => bnd (E ts) fun e ts => bnd (needB z w_of ts) fun _ ts => bnd (needB z s_ls ts) fun _ ts => bnd (needB z s_rs ts) fun _ ts => bnd (needB z s_to ts) fun _ ts =>
  bnd (E ts) fun a ts => bnd (needB z s_bar ts) fun _ ts => bnd (namedB z ts) fun x ts => bnd (needB z s_cons ts) fun _ ts => bnd (namedB z ts) fun y ts => bnd (needB z s_to ts) fun _ ts =>
  bnd (E ts) fun b ts => bnd (needB z w_end ts) fun _ ts => .ok (nd 17 t.pos [e, a, x, y, b], ts)
def retB (E : List Tk → R Tr) (ts : List Tk) : R Tr :=
 bnd (lookB z ts) fun t _ => bnd (needB z w_return ts) fun _ ts => bnd (kindB z 2 ts) fun x ts => bnd (needB z s_to ts) fun _ ts => bnd (E ts) fun b ts => .ok (nm 21 t.pos x.text [b], ts)
def clauseB (E : List Tk → R Tr) (ts : List Tk) : R Tr :=
 bnd (kindB z 2 ts) fun o ts => bnd (namedB z ts) fun y ts => bnd (namedB z ts) fun k ts => bnd (needB z s_to ts) fun _ ts => bnd (E ts) fun c ts => .ok (nm 22 o.pos o.text [y, k, c], ts)
def clausesB (E : List Tk → R Tr) : Nat → List Tr → List Tk → R (List Tr)
 | 0, _, ts => bnd (lookB z ts) fun _ _ => .error (99, 0)
 | n + 1, l, ts => iteB z s_bar ts (fun ts => bnd (clauseB z E ts) fun c ts => clausesB E n (l ++ [c]) ts) (fun ts => .ok (l, ts))
def handleB (E : List Tk → R Tr) (ts : List Tk) : R Tr :=
 bnd (takeB z ts) fun t ts => bnd (E ts) fun e ts => bnd (needB z w_with ts) fun _ ts => bnd (needB z s_lb ts) fun _ ts => bnd (retB z E ts) fun r ts =>
  bnd (clausesB z E N [e, r] ts) fun l ts => bnd (needB z s_rb ts) fun _ ts => .ok (.mk 20 t.pos [] (if t.text == w_shallow then 1 else 0) l, ts)
def anyB (E : List Tk → R Tr) (ts : List Tk) : R Tr :=
 bnd (lookB z ts) fun t _ =>
  if t.text == w_let then letB z N E ts
  else if t.text == w_fn then fnB z N E ts
  else if t.text == w_if then ifB z E ts
  else if t.text == w_case then casesB z E ts
  else if t.text == w_handle || t.text == w_shallow then handleB z N E ts
  else seqB z N E ts
def exprB : Nat → List Tk → R Tr
 | 0, ts => bnd (lookB z ts) fun t _ => .error (5, t.pos)
 | k + 1, ts => bnd (lookB z ts) fun _ _ => anyB z N (exprB k) ts

/- programs -/
def opB (ts : List Tk) : R Tr :=
 bnd (takeB z ts) fun t ts =>
  iteB z w_once ts
   (fun ts => bnd (kindB z 2 ts) fun x ts => bnd (needB z s_colon ts) fun _ ts => bnd (typB z N 200 ts) fun a ts => bnd (needB z s_to ts) fun _ ts => bnd (typB z N 200 ts) fun b ts => .ok (.mk 1 t.pos x.text 1 [a, b], ts))
   (fun ts => bnd (needB z w_many ts) fun _ ts => bnd (kindB z 2 ts) fun x ts => bnd (needB z s_colon ts) fun _ ts => bnd (typB z N 200 ts) fun a ts => bnd (needB z s_to ts) fun _ ts => bnd (typB z N 200 ts) fun b ts => .ok (.mk 1 t.pos x.text 0 [a, b], ts))
def opsB : Nat → List Tr → List Tk → R (List Tr)
 | 0, _, ts => bnd (lookB z ts) fun _ _ => .error (99, 0)
 | n + 1, l, ts => bnd (lookB z ts) fun t _ => if t.text == w_op then bnd (opB z N ts) fun a ts => opsB n (l ++ [a]) ts else .ok (l, ts)
def defB (ts : List Tk) : R Tr := bnd (takeB z ts) fun t ts => bnd (bindB z N (exprB z N 200) 1 ts) fun d ts => .ok (.mk 2 t.pos d.2.1 d.1 [d.2.2], ts)
def defsB : Nat → List Tr → List Tk → R (List Tr)
 | 0, _, ts => bnd (lookB z ts) fun _ _ => .error (99, 0)
 | n + 1, l, ts => bnd (lookB z ts) fun t _ => if t.text == w_def then bnd (defB z N ts) fun a ts => defsB n (l ++ [a]) ts else .ok (l, ts)
def progB (ts : List Tk) : R Tr :=
 bnd (opsB z N N [] ts) fun o ts => bnd (defsB z N N o ts) fun d ts => bnd (needB z w_main ts) fun _ ts => bnd (needB z s_eq ts) fun _ ts =>
  bnd (exprB z N 200 ts) fun e ts => bnd (kindB z 0 ts) fun _ ts => .ok (.mk 0 0 [] o.length (d ++ [e]), ts)
def parseB (ts : List Tk) : Tr × (Nat × Nat) :=
 match progB z N ts with
 | .ok (a, _) => (a, (0, 0))
 | .error e => (zT, e)
end B
end Sy

namespace Sy
open Lx

def Gd (t : Tk) : Prop := (t.kind = 1 ∧ t.text = []) ∨ (t.kind = 2 ∧ (∃ c r, t.text = c :: r ∧ isLet c = true) ∧ isWd t.text = false) ∨ t.kind = 3 ∨ t.kind = 4

def Fit (z : Env) (s : RS) (ts : List Tk) : Prop :=
 match ts with
 | t :: r => s = ⟨t, r, (0, 0)⟩
 | [] => if z.fin.1 = 0 then s = ⟨endTk z, [], (0, 0)⟩ else s.f = z.fin

def Ans {α : Type} (z : Env) (a : α × RS) (b : R α) : Prop :=
 match b with
 | .ok (x, ts) => (∀ t ∈ ts, Gd t) ∧ Fit z a.2 ts ∧ (okA a.2 = true → a.1 = x)
 | .error e => a.2.f = e ∧ e.1 ≠ 0

def Keeps {α : Type} (g : RS → α × RS) : Prop := ∀ s, okA s = false → (g s).2.f = s.f
def Both {α : Type} (z : Env) (g : RS → α × RS) (b : List Tk → R α) : Prop := Keeps g ∧ ∀ s ts, (∀ t ∈ ts, Gd t) → Fit z s ts → Ans z (g s) (b ts)

section
variable {z : Env}

theorem bnd_ok {α β : Type} (a : α) (ts : List Tk) (f : α → List Tk → R β) : bnd (.ok (a, ts)) f = f a ts := rfl
end
end Sy

open Sy (Tr)

mutual
def nodes : Tr → Nat
 | .mk _ _ _ _ l => 1 + nodesL l
def nodesL : List Tr → Nat
 | [] => 0
 | t :: r => nodes t + nodesL r
end
mutual
def high : Tr → Nat
 | .mk _ _ _ _ l => 1 + highL l
def highL : List Tr → Nat
 | [] => 0
 | t :: r => max (high t) (highL r)
end
def isE (t : Tr) : Prop := 3 ≤ t.kind ∧ t.kind ≤ 20
def isT (t : Tr) : Prop := 24 ≤ t.kind ∧ t.kind ≤ 29
def fiveS (x : List UInt8) : Prop := x = [43] ∨ x = [45] ∨ x = [42] ∨ x = [60] ∨ x = [61, 61]
def cond (k : Nat) (x : List UInt8) (m : Int) (l : List Tr) : Prop :=
 ((k = 4 ∨ k = 5 ∨ k = 6 ∨ k = 15 ∨ k = 23 ∨ k = 24 ∨ k = 25 ∨ k = 26) ∧ l = []) ∨
 (k = 3 ∧ l = [] ∧ -9223372036854775807 ≤ m ∧ m ≤ 9223372036854775807) ∨
 ((k = 7 ∨ k = 13 ∨ k = 14 ∨ k = 19 ∨ k = 21) ∧ ∃ a, l = [a] ∧ isE a) ∨
 (k = 27 ∧ ∃ a, l = [a] ∧ isT a) ∨
 ((k = 8 ∨ (k = 9 ∧ m ≠ 1) ∨ k = 10 ∨ k = 12 ∨ k = 16 ∨ (k = 18 ∧ fiveS x)) ∧ ∃ a b, l = [a, b] ∧ isE a ∧ isE b) ∨
 ((k = 1 ∨ k = 28) ∧ ∃ a b, l = [a, b] ∧ isT a ∧ isT b) ∨
 (k = 9 ∧ m = 1 ∧ ∃ f b, l = [f, b] ∧ f.kind = 7 ∧ isE b) ∨
 (k = 11 ∧ ∃ a b c, l = [a, b, c] ∧ isE a ∧ isE b ∧ isE c) ∨
 (k = 17 ∧ ∃ a b c d e, l = [a, b, c, d, e] ∧ isE a ∧ isE b ∧ isE e) ∨
 (k = 20 ∧ ∃ a r cs, l = a :: r :: cs ∧ isE a ∧ r.kind = 21 ∧ ∀ q ∈ cs, q.kind = 22) ∨
 (k = 22 ∧ ∃ a b c, l = [a, b, c] ∧ isE c) ∨
 (k = 29 ∧ ∃ a b ns, l = a :: b :: ns ∧ isT a ∧ isT b ∧ ∀ q ∈ ns, q.kind = 23) ∨
 (k = 2 ∧ ∃ f, l = [f] ∧ f.kind = 7) ∨
 (k = 0 ∧ ∃ ops defs mn, l = ops ++ defs ++ [mn] ∧ m = ops.length ∧ (∀ q ∈ ops, q.kind = 1) ∧ (∀ q ∈ defs, q.kind = 2) ∧ isE mn)
mutual
def Nice : Tr → Prop
 | .mk k _ x m l => x.length ≤ 20 ∧ cond k x m l ∧ NiceL l
def NiceL : List Tr → Prop
 | [] => True
 | t :: r => Nice t ∧ NiceL r
end
theorem niceL_mem : ∀ (l : List Tr), NiceL l → ∀ q ∈ l, Nice q := by
 intro l
 induction l with
 | nil => intro _ q hq; cases hq
 | cons t r ih =>
  intro h q hq
  rw [NiceL] at h
  rcases List.mem_cons.1 hq with rfl | hq
  ·exact h.1
  ·exact ih h.2 q hq
theorem niceL_append (a b : List Tr) : NiceL (a ++ b) ↔ NiceL a ∧ NiceL b := by
 induction a with
 | nil => simp [NiceL]
 | cons t r ih => simp only [List.cons_append, NiceL, ih, and_assoc]
theorem nodesL_append (a b : List Tr) : nodesL (a ++ b) = nodesL a + nodesL b := by
 induction a with
 | nil => simp [nodesL]
 | cons t r ih => simp only [List.cons_append, nodesL, ih]; omega
theorem nodes_pos (t : Tr) : 1 ≤ nodes t := by cases t; simp [nodes]
theorem high_pos (t : Tr) : 1 ≤ high t := by cases t; simp [high]
theorem nodesL_len (l : List Tr) : l.length ≤ nodesL l := by
 induction l with
 | nil => simp
 | cons t r ih => have := nodes_pos t; simp only [List.length_cons, nodesL]; omega
theorem nodesL_mem : ∀ (l : List Tr), ∀ q ∈ l, nodes q ≤ nodesL l := by
 intro l
 induction l with
 | nil => intro q hq; cases hq
 | cons t r ih =>
  intro q hq
  rw [nodesL]
  rcases List.mem_cons.1 hq with rfl | hq
  ·omega
  ·have := ih q hq; omega
theorem highL_mem : ∀ (l : List Tr), ∀ q ∈ l, high q ≤ highL l := by
 intro l
 induction l with
 | nil => intro q hq; cases hq
 | cons t r ih =>
  intro q hq
  rw [highL]
  rcases List.mem_cons.1 hq with rfl | hq
  ·omega
  ·have := ih q hq; omega
end Go.Proofs.YtoajnlhegallpaaGreatDoor
