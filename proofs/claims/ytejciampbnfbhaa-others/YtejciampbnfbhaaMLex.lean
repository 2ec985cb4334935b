import Derived.WalkKit
import Derived.Test.YtejciampbnfbhaaMTyM
set_option linter.unusedVariables false
set_option linter.unusedSimpArgs false
namespace Go.Proofs.Ytejciampbnfbhaa
namespace Lx
def isDig (c : UInt8) : Bool := decide (48 ≤ c.toNat) && decide (c.toNat ≤ 57)
def isLet (c : UInt8) : Bool := ((decide (97 ≤ c.toNat) && decide (c.toNat ≤ 122)) || (decide (65 ≤ c.toNat) && decide (c.toNat ≤ 90))) || c.toNat == 95
def isBl (c : UInt8) : Bool := ((c.toNat == 9 || c.toNat == 10) || c.toNat == 13) || c.toNat == 32
def isNm (c : UInt8) : Bool := isLet c || isDig c
def notNl (c : UInt8) : Bool := c.toNat != 10
def sigBytes : List UInt8 := [40, 41, 91, 93, 123, 125, 44, 59, 58, 61, 45, 43, 42, 60, 124, 126]
def isSg (c : UInt8) : Bool := sigBytes.contains c
def twos : List (List UInt8) := [[58, 58], [61, 61], [61, 62], [45, 62]]
def wordList : List (List UInt8) :=
 [[111, 112], [111, 110, 99, 101], [109, 97, 110, 121], [100, 101, 102], [114, 101, 99], [109, 97, 105, 110], [108, 101, 116], [105, 110], [102, 110], [105, 102],
  [116, 104, 101, 110], [101, 108, 115, 101], [99, 97, 115, 101], [111, 102], [101, 110, 100], [100, 111], [102, 115, 116], [115, 110, 100], [104, 97, 110, 100, 108, 101],
  [115, 104, 97, 108, 108, 111, 119], [119, 105, 116, 104], [114, 101, 116, 117, 114, 110], [116, 114, 117, 101], [102, 97, 108, 115, 101], [105, 110, 116], [98, 111, 111, 108],
  [117, 110, 105, 116], [108, 105, 115, 116]]
def isWd (l : List UInt8) : Bool := wordList.contains l
structure Tk where
 kind : Nat
 pos : Nat
 text : List UInt8
 num : Nat
def numVal (l : List UInt8) : Nat := l.foldl (fun a c => 10 * a + (c.toNat - 48)) 0
def okNum (l : List UInt8) : Bool := !(decide (1 < l.length) && l.head? == some 48) && decide (numVal l ≤ 9223372036854775807)
def signLen (l : List UInt8) : Nat := if twos.contains (l.take 2) then 2 else 1
def tokAt (pos : Nat) (l : List UInt8) : Except (Nat × Nat) (Tk × Nat) :=
 if (l.head?.map isDig).getD false then
  (if okNum (l.takeWhile isDig) then .ok (⟨1, pos, [], numVal (l.takeWhile isDig)⟩, (l.takeWhile isDig).length) else .error (3, pos))
 else if (l.head?.map isLet).getD false then
  (if (l.takeWhile isNm).length ≤ 20 then .ok (⟨if isWd (l.takeWhile isNm) then 3 else 2, pos, l.takeWhile isNm, 0⟩, (l.takeWhile isNm).length) else .error (3, pos))
 else if (l.head?.map isSg).getD false then .ok (⟨4, pos, l.take (signLen l), 0⟩, signLen l)
 else .error (2, pos)
theorem tokAt_dig (pos : Nat) (c : UInt8) (r : List UInt8) (h : isDig c = true) : tokAt pos (c :: r) =
  (if okNum ((c :: r).takeWhile isDig) then .ok (⟨1, pos, [], numVal ((c :: r).takeWhile isDig)⟩, ((c :: r).takeWhile isDig).length) else .error (3, pos)) := by
 simp only [tokAt, List.head?_cons, Option.map_some, Option.getD_some, h, if_true]
theorem tokAt_let (pos : Nat) (c : UInt8) (r : List UInt8) (h0 : isDig c = false) (h : isLet c = true) : tokAt pos (c :: r) =
  (if ((c :: r).takeWhile isNm).length ≤ 20 then .ok (⟨if isWd ((c :: r).takeWhile isNm) then 3 else 2, pos, (c :: r).takeWhile isNm, 0⟩, ((c :: r).takeWhile isNm).length) else .error (3, pos)) := by
 simp only [tokAt, List.head?_cons, Option.map_some, Option.getD_some, h0, h, if_true, Bool.false_eq_true, if_false]
theorem tokAt_sg (pos : Nat) (c : UInt8) (r : List UInt8) (h0 : isDig c = false) (h1 : isLet c = false) (h : isSg c = true) : tokAt pos (c :: r) =
  .ok (⟨4, pos, (c :: r).take (signLen (c :: r)), 0⟩, signLen (c :: r)) := by
 simp only [tokAt, List.head?_cons, Option.map_some, Option.getD_some, h0, h1, h, if_true, Bool.false_eq_true, if_false]
theorem tokAt_no (pos : Nat) (c : UInt8) (r : List UInt8) (h0 : isDig c = false) (h1 : isLet c = false) (h : isSg c = false) : tokAt pos (c :: r) = .error (2, pos) := by
 simp only [tokAt, List.head?_cons, Option.map_some, Option.getD_some, h0, h1, h, Bool.false_eq_true, if_false]
theorem signLen_le (c : UInt8) (r : List UInt8) : 1 ≤ signLen (c :: r) ∧ signLen (c :: r) ≤ (c :: r).length := by
 unfold signLen
 by_cases h3 : twos.contains ((c :: r).take 2) = true
 ·rw [if_pos h3]
  refine ⟨by omega, ?_⟩
  cases r with
  | nil =>
   exfalso
   simp [twos] at h3
  | cons a b => simp
 ·rw [if_neg h3]
  simp
theorem tokAt_pos {pos : Nat} {c : UInt8} {r : List UInt8} {t : Tk} {n : Nat} (h : tokAt pos (c :: r) = .ok (t, n)) : 1 ≤ n ∧ n ≤ (c :: r).length := by
 cases h1 : isDig c with
 | true =>
  rw [tokAt_dig pos c r h1] at h
  by_cases h2 : okNum ((c :: r).takeWhile isDig) = true
  ·rw [if_pos h2] at h
   simp only [Except.ok.injEq, Prod.mk.injEq] at h; rw [← h.2]; exact ⟨by simp [h1], (List.takeWhile_sublist _).length_le⟩
  ·rw [if_neg h2] at h
   cases h
 | false =>
  cases h2 : isLet c with
  | true =>
   rw [tokAt_let pos c r h1 h2] at h
   by_cases h3 : ((c :: r).takeWhile isNm).length ≤ 20
   ·rw [if_pos h3] at h
    simp only [Except.ok.injEq, Prod.mk.injEq] at h; rw [← h.2]; exact ⟨by simp [isNm, h2], (List.takeWhile_sublist _).length_le⟩
   ·rw [if_neg h3] at h
    cases h
  | false =>
   cases h3 : isSg c with
   | true =>
    rw [tokAt_sg pos c r h1 h2 h3] at h; simp only [Except.ok.injEq, Prod.mk.injEq] at h; rw [← h.2]; exact signLen_le c r
   | false =>
    rw [tokAt_no pos c r h1 h2 h3] at h; cases h
theorem dropWhile_len (c : UInt8) (r : List UInt8) (h : c.toNat = 35) : ((c :: r).dropWhile notNl).length ≤ r.length := by
 have : notNl c = true := by simp [notNl, h]
 simp only [List.dropWhile_cons, this, if_true]
 exact (List.dropWhile_sublist _).length_le
end Lx
end Go.Proofs.Ytejciampbnfbhaa

namespace Go.Proofs.Ytejciampbnfbhaa
namespace Sy
open Lx
inductive Tr where
 | mk (kind pos : Nat) (name : List UInt8) (num : Int) (kids : List Tr)
def Tr.pos : Tr → Nat
 | .mk _ p _ _ _ => p
def Tr.kind : Tr → Nat
 | .mk k _ _ _ _ => k
def Tr.name : Tr → List UInt8
 | .mk _ _ x _ _ => x
def Tr.num : Tr → Int
 | .mk _ _ _ n _ => n
def Tr.kids : Tr → List Tr
 | .mk _ _ _ _ l => l
def Tr.at : Tr → Nat → Tr
 | .mk k _ m n l, p => .mk k p m n l
def zT : Tr := .mk 0 0 [] 0 []
def nd (k p : Nat) (l : List Tr) : Tr := .mk k p [] 0 l
def nm (k p : Nat) (x : List UInt8) (l : List Tr) : Tr := .mk k p x 0 l
structure Env where
 fin : Nat × Nat
 stop : Nat
def endTk (z : Env) : Tk := ⟨0, z.stop, [], 0⟩
def zTk : Tk := ⟨0, 0, [], 0⟩
structure RS where
 t : Tk
 rest : List Tk
 f : Nat × Nat
def okA (s : RS) : Bool := s.f.1 == 0
def nextA (z : Env) (s : RS) : RS :=
 if okA s then
  match s.rest with
  | x :: r => ⟨x, r, (0, 0)⟩
  | [] => if z.fin.1 = 0 then ⟨endTk z, [], (0, 0)⟩ else ⟨zTk, [], z.fin⟩
 else s
def noA (s : RS) : RS := if okA s then ⟨s.t, s.rest, (4, s.t.pos)⟩ else s
def deepA (s : RS) : RS := ⟨s.t, s.rest, (5, s.t.pos)⟩
def isA (x : List UInt8) (s : RS) : Bool := okA s && (s.t.kind == 3 || s.t.kind == 4) && s.t.text == x
def hasA (z : Env) (x : List UInt8) (s : RS) : RS := if isA x s then nextA z s else s
def mustA (z : Env) (x : List UInt8) (s : RS) : RS := if isA x s then nextA z s else noA s
def isNameA (s : RS) : Bool := okA s && s.t.kind == 2
def nameA (z : Env) (s : RS) : (List UInt8 × Nat) × RS := if isNameA s then ((s.t.text, s.t.pos), nextA z s) else (([], 0), noA s)
def stuckA (s : RS) : RS := if okA s then ⟨s.t, s.rest, (99, 0)⟩ else s
def w_op : List UInt8 := [111, 112]
def w_once : List UInt8 := [111, 110, 99, 101]
def w_many : List UInt8 := [109, 97, 110, 121]
def w_def : List UInt8 := [100, 101, 102]
def w_rec : List UInt8 := [114, 101, 99]
def w_main : List UInt8 := [109, 97, 105, 110]
def w_let : List UInt8 := [108, 101, 116]
def w_in : List UInt8 := [105, 110]
def w_fn : List UInt8 := [102, 110]
def w_if : List UInt8 := [105, 102]
def w_then : List UInt8 := [116, 104, 101, 110]
def w_else : List UInt8 := [101, 108, 115, 101]
def w_case : List UInt8 := [99, 97, 115, 101]
def w_of : List UInt8 := [111, 102]
def w_end : List UInt8 := [101, 110, 100]
def w_do : List UInt8 := [100, 111]
def w_fst : List UInt8 := [102, 115, 116]
def w_snd : List UInt8 := [115, 110, 100]
def w_handle : List UInt8 := [104, 97, 110, 100, 108, 101]
def w_shallow : List UInt8 := [115, 104, 97, 108, 108, 111, 119]
def w_with : List UInt8 := [119, 105, 116, 104]
def w_return : List UInt8 := [114, 101, 116, 117, 114, 110]
def w_true : List UInt8 := [116, 114, 117, 101]
def w_false : List UInt8 := [102, 97, 108, 115, 101]
def w_int : List UInt8 := [105, 110, 116]
def w_bool : List UInt8 := [98, 111, 111, 108]
def w_unit : List UInt8 := [117, 110, 105, 116]
def w_list : List UInt8 := [108, 105, 115, 116]
def s_lp : List UInt8 := [40]
def s_rp : List UInt8 := [41]
def s_ls : List UInt8 := [91]
def s_rs : List UInt8 := [93]
def s_lb : List UInt8 := [123]
def s_rb : List UInt8 := [125]
def s_comma : List UInt8 := [44]
def s_semi : List UInt8 := [59]
def s_colon : List UInt8 := [58]
def s_eq : List UInt8 := [61]
def s_minus : List UInt8 := [45]
def s_plus : List UInt8 := [43]
def s_star : List UInt8 := [42]
def s_lt : List UInt8 := [60]
def s_bar : List UInt8 := [124]
def s_tilde : List UInt8 := [126]
def s_cons : List UInt8 := [58, 58]
def s_eqeq : List UInt8 := [61, 61]
def s_to : List UInt8 := [61, 62]
def s_arrow : List UInt8 := [45, 62]
section A
variable (z : Env) (N : Nat)
/- types -/
def rowA : Nat → List Tr → RS → List Tr × RS
 | 0, l, s => (l, stuckA s)
 | n + 1, l, s =>
  if isA s_comma (nameA z s).2 then rowA n (l ++ [nm 23 (nameA z s).1.2 (nameA z s).1.1 []]) (nextA z (nameA z s).2)
  else (l ++ [nm 23 (nameA z s).1.2 (nameA z s).1.1 []], (nameA z s).2)
def listsA : Nat → Tr → RS → Tr × RS
 | 0, a, s => (a, stuckA s)
 | n + 1, a, s => if isA w_list s then listsA n (nd 27 a.pos [a]) (nextA z s) else (a, s)
def tatomA (T : RS → Tr × RS) (s : RS) : Tr × RS :=
 if isA w_int s then (nd 24 s.t.pos [], nextA z s)
 else if isA w_bool s then (nd 25 s.t.pos [], nextA z s)
 else if isA w_unit s then (nd 26 s.t.pos [], nextA z s)
 else if isA s_lp s then ((T (nextA z s)).1, mustA z s_rp (T (nextA z s)).2)
 else (zT, noA s)
def someA (T : RS → Tr × RS) (s : RS) : Tr × RS := listsA z N (tatomA z T s).1 (tatomA z T s).2
def pairA (T : RS → Tr × RS) : Nat → RS → Tr × RS
 | 0, s => (zT, stuckA s)
 | n + 1, s =>
  if isA s_star (someA z N T s).2 then
   (nd 28 (someA z N T s).1.pos [(someA z N T s).1, (pairA T n (nextA z (someA z N T s).2)).1], (pairA T n (nextA z (someA z N T s).2)).2)
  else someA z N T s
def typBodyA (T : RS → Tr × RS) (s : RS) : Tr × RS :=
 let a := pairA z N T N s
 if isA s_arrow a.2 then (nd 29 a.1.pos [a.1, (T (nextA z a.2)).1], (T (nextA z a.2)).2)
 else if isA s_minus a.2 then
  let l := rowA z N [] (mustA z s_lb (nextA z a.2))
  let b := T (mustA z s_arrow (mustA z s_rb l.2))
  (nd 29 a.1.pos ([a.1, b.1] ++ l.1), b.2)
 else a
def typA : Nat → RS → Tr × RS
 | 0, s => if okA s then (zT, deepA s) else (zT, s)
 | k + 1, s => if okA s then typBodyA z N (typA k) s else (zT, s)
/- expressions; E: the reader of expressions one deeper -/
def paramsA (E : RS → Tr × RS) (sign : List UInt8) : Nat → Bool → RS → Tr × RS
 | 0, _, s => (zT, stuckA s)
 | n + 1, first, s =>
  if first || isNameA s then
   if okA (nameA z s).2 then
    (nm 7 (nameA z s).1.2 (nameA z s).1.1 [(paramsA E sign n false (nameA z s).2).1], (paramsA E sign n false (nameA z s).2).2)
   else (zT, (nameA z s).2)
  else E (mustA z sign s)
def squaresA (E : RS → Tr × RS) : Nat → List Tr → RS → List Tr × RS
 | 0, l, s => (l, stuckA s)
 | n + 1, l, s => if isA s_comma (E s).2 then squaresA E n (l ++ [(E s).1]) (nextA z (E s).2) else (l ++ [(E s).1], (E s).2)
def consUp (l : List Tr) (e : Tr) : Tr := l.foldr (fun a b => nd 16 a.pos [a, b]) e
def squareA (E : RS → Tr × RS) (p : Nat) (s : RS) : Tr × RS :=
 if isA s_rs s then (nd 15 p [], nextA z s)
 else
  let l := squaresA z E N [] s
  (consUp l.1 (nd 15 p []), mustA z s_rs l.2)
def roundA (E : RS → Tr × RS) (p : Nat) (s : RS) : Tr × RS :=
 if isA s_rp s then (nd 5 p [], nextA z s)
 else
  let a := E s
  if isA s_comma a.2 then
   let b := E (nextA z a.2)
   (nd 12 p [a.1, b.1], mustA z s_rp b.2)
  else (a.1, mustA z s_rp a.2)
def atomA (E : RS → Tr × RS) (s : RS) : Tr × RS :=
 if okA s then
  if s.t.kind = 2 then (nm 6 s.t.pos s.t.text [], nextA z s)
  else if s.t.kind = 1 then (.mk 3 s.t.pos [] s.t.num [], nextA z s)
  else if isA s_tilde s then
   let u := nextA z s
   (.mk 3 s.t.pos [] (-u.t.num) [], nextA z (if okA u && u.t.kind != 1 then noA u else u))
  else if isA w_true s then (.mk 4 s.t.pos [] 1 [], nextA z s)
  else if isA w_false s then (nd 4 s.t.pos [], nextA z s)
  else if isA s_lp s then roundA z E s.t.pos (nextA z s)
  else if isA s_ls s then squareA z N E s.t.pos (nextA z s)
  else (zT, noA s)
 else (zT, s)
def beginsA (s : RS) : Bool := okA s && (s.t.kind == 2 || s.t.kind == 1 || isA s_tilde s || isA w_true s || isA w_false s || isA s_lp s || isA s_ls s)
def appsA (E : RS → Tr × RS) : Nat → Tr → RS → Tr × RS
 | 0, a, s => (a, stuckA s)
 | n + 1, a, s => if beginsA s then appsA E n (nd 8 a.pos [a, (atomA z N E s).1]) (atomA z N E s).2 else (a, s)
def appA (E : RS → Tr × RS) (s : RS) : Tr × RS :=
 if isA w_do s then
  let x := nameA z (nextA z s)
  let a := atomA z N E x.2
  (nm 19 s.t.pos x.1.1 [a.1], a.2)
 else if isA w_fst s then
  let a := atomA z N E (nextA z s)
  (nd 13 s.t.pos [a.1], a.2)
 else if isA w_snd s then
  let a := atomA z N E (nextA z s)
  (nd 14 s.t.pos [a.1], a.2)
 else appsA z N E N (atomA z N E s).1 (atomA z N E s).2
def op2 (x : List UInt8) (a b : Tr) : Tr := nm 18 a.pos x [a, b]
def mulsA (E : RS → Tr × RS) : Nat → Tr → RS → Tr × RS
 | 0, a, s => (a, stuckA s)
 | n + 1, a, s => if isA s_star s then mulsA E n (op2 s_star a (appA z N E (nextA z s)).1) (appA z N E (nextA z s)).2 else (a, s)
def mulA (E : RS → Tr × RS) (s : RS) : Tr × RS := mulsA z N E N (appA z N E s).1 (appA z N E s).2
def sumsA (E : RS → Tr × RS) : Nat → Tr → RS → Tr × RS
 | 0, a, s => (a, stuckA s)
 | n + 1, a, s =>
  if isA s_plus s then sumsA E n (op2 s.t.text a (mulA z N E (nextA z s)).1) (mulA z N E (nextA z s)).2
  else if isA s_minus s then sumsA E n (op2 s.t.text a (mulA z N E (nextA z s)).1) (mulA z N E (nextA z s)).2
  else (a, s)
def sumA (E : RS → Tr × RS) (s : RS) : Tr × RS := sumsA z N E N (mulA z N E s).1 (mulA z N E s).2
def consA (E : RS → Tr × RS) : Nat → RS → Tr × RS
 | 0, s => (zT, stuckA s)
 | n + 1, s =>
  let a := sumA z N E s
  if isA s_cons a.2 then
   let b := consA E n (nextA z a.2)
   (nd 16 a.1.pos [a.1, b.1], b.2)
  else a
def compA (E : RS → Tr × RS) (s : RS) : Tr × RS :=
 let a := consA z N E N s
 if isA s_eqeq a.2 then
  let b := consA z N E N (nextA z a.2)
  (op2 s_eqeq a.1 b.1, b.2)
 else if isA s_lt a.2 then
  let b := consA z N E N (nextA z a.2)
  (op2 s_lt a.1 b.1, b.2)
 else a
def letA (E : RS → Tr × RS) (p : Nat) (s : RS) : Tr × RS :=
 let r := isA w_rec s
 let x := nameA z (hasA z w_rec s)
 let a := paramsA z E s_eq N r x.2
 let b := E (mustA z w_in a.2)
 (.mk 9 p x.1.1 (if r then 1 else 0) [a.1, b.1], b.2)
def casesA (E : RS → Tr × RS) (p : Nat) (s : RS) : Tr × RS :=
 let e := E s
 let a := E (mustA z s_to (mustA z s_rs (mustA z s_ls (mustA z w_of e.2))))
 let x := nameA z (mustA z s_bar a.2)
 let y := nameA z (mustA z s_cons x.2)
 let b := E (mustA z s_to y.2)
 (nd 17 p [e.1, a.1, nm 23 x.1.2 x.1.1 [], nm 23 y.1.2 y.1.1 [], b.1], mustA z w_end b.2)
def clausesA (E : RS → Tr × RS) : Nat → List Tr → RS → List Tr × RS
 | 0, l, s => (l, stuckA s)
 | n + 1, l, s =>
  if isA s_bar s then
   let o := nameA z (nextA z s)
   let y := nameA z o.2
   let k := nameA z y.2
   let c := E (mustA z s_to k.2)
   clausesA E n (l ++ [nm 22 o.1.2 o.1.1 [nm 23 y.1.2 y.1.1 [], nm 23 k.1.2 k.1.1 [], c.1]]) c.2
  else (l, s)
def handleA (E : RS → Tr × RS) (p : Nat) (s : RS) : Tr × RS :=
 let deep := isA w_handle s
 let e := E (nextA z s)
 let u := mustA z s_lb (mustA z w_with e.2)
 let x := nameA z (mustA z w_return u)
 let b := E (mustA z s_to x.2)
 let l := clausesA z E N [e.1, nm 21 u.t.pos x.1.1 [b.1]] b.2
 (.mk 20 p [] (if deep then 0 else 1) l.1, mustA z s_rb l.2)
def anyA (E : RS → Tr × RS) (s : RS) : Tr × RS :=
 if isA w_let s then letA z N E s.t.pos (nextA z s)
 else if isA w_fn s then
  let e := paramsA z E s_to N true (nextA z s)
  (e.1.at s.t.pos, e.2)
 else if isA w_if s then
  let a := E (nextA z s)
  let b := E (mustA z w_then a.2)
  let c := E (mustA z w_else b.2)
  (nd 11 s.t.pos [a.1, b.1, c.1], c.2)
 else if isA w_case s then casesA z E s.t.pos (nextA z s)
 else if isA w_handle s || isA w_shallow s then handleA z N E s.t.pos s
 else
  let a := compA z N E s
  if isA s_semi a.2 then
   let b := E (nextA z a.2)
   (nd 10 a.1.pos [a.1, b.1], b.2)
  else a
def exprA : Nat → RS → Tr × RS
 | 0, s => if okA s then (zT, deepA s) else (zT, s)
 | k + 1, s => if okA s then anyA z N (exprA k) s else (zT, s)
/- programs -/
def opsA : Nat → List Tr → RS → List Tr × RS
 | 0, l, s => (l, stuckA s)
 | n + 1, l, s =>
  if isA w_op s then
   let u := nextA z s
   let once := isA w_once u
   let v := if once || isA w_many u then nextA z u else noA u
   let x := nameA z v
   let a := typA z N 200 (mustA z s_colon x.2)
   let b := typA z N 200 (mustA z s_to a.2)
   opsA n (l ++ [.mk 1 s.t.pos x.1.1 (if once then 1 else 0) [a.1, b.1]]) b.2
  else (l, s)
def defsA : Nat → List Tr → RS → List Tr × RS
 | 0, l, s => (l, stuckA s)
 | n + 1, l, s =>
  if isA w_def s then
   let u := nextA z s
   let r := isA w_rec u
   let x := nameA z (hasA z w_rec u)
   let e := paramsA z (exprA z N 200) s_eq N true x.2
   defsA n (l ++ [.mk 2 s.t.pos x.1.1 (if r then 1 else 0) [e.1]]) e.2
  else (l, s)
def progA (s : RS) : Tr × RS :=
 let o := opsA z N N [] s
 let d := defsA z N N o.1 o.2
 let e := exprA z N 200 (mustA z s_eq (mustA z w_main d.2))
 (.mk 0 0 [] o.1.length (d.1 ++ [e.1]), e.2)
def parseA (s0 : RS) : Tr × (Nat × Nat) :=
 let n := progA z N (nextA z s0)
 let u := if okA n.2 && n.2.t.kind != 0 then noA n.2 else n.2
 if okA u then (n.1, (0, 0)) else (zT, u.f)
end A
end Sy
end Go.Proofs.Ytejciampbnfbhaa

namespace Go.Proofs.Ytejciampbnfbhaa
namespace Ie
open Un (Nm ins joinB less)
open Dg (mput number rowNum NM)
inductive Tri (α : Type) where
 | no
 | val (x : α)
 | br (l r : Tri α)
def Tri.get {α : Type} : Nat → Tri α → Nat → Option α
 | 0, .val x, _ => some x
 | k + 1, .br l r, n => match n % 2 with
  | 0 => l.get k (n / 2)
  | _ => r.get k (n / 2)
 | _, _, _ => none
def Tri.set {α : Type} : Nat → Tri α → Nat → α → Tri α
 | 0, _, _, x => .val x
 | k + 1, .br l r, n, x => match n % 2 with
  | 0 => .br (l.set k (n / 2) x) r
  | _ => .br l (r.set k (n / 2) x)
 | k + 1, _, n, x => match n % 2 with
  | 0 => .br (Tri.set k .no (n / 2) x) .no
  | _ => .br .no (Tri.set k .no (n / 2) x)
structure Nd where
 k : Int
 a : Int
 b : Int
 r : Int
 l : Int
structure E where
 nd : Tri Nd
 n : Nat
 rw : Tri (List Nm × Int)
 m : Nat
abbrev dp : Nat := 13
def E.at (e : E) : Int → Option Nd
 | .ofNat i => bif Nat.blt i e.n then e.nd.get dp i else none
 | .negSucc _ => none
def E.row (e : E) : Int → Option (List Nm × Int)
 | .ofNat i => bif Nat.blt i e.m then e.rw.get dp i else none
 | .negSucc _ => none
def E.put (e : E) (k a b r : Int) : Option (Int × E) := bif Nat.blt e.n 8192 then some (e.n, { e with nd := e.nd.set dp e.n ⟨k, a, b, r, -1⟩, n := e.n + 1 }) else none
def E.putRow (e : E) (o : List Nm) (x : Int) : Option (Int × E) := bif Nat.blt e.m 8192 then some (e.m, { e with rw := e.rw.set dp e.m (o, x), m := e.m + 1 }) else none
def E.var (e : E) : Option (Int × E) := e.put 0 (-1) (-1) 0
def E.opn (e : E) : Option (Int × E) := e.putRow [] (-1)
def E.lnk (e : E) (i : Int) (x : Int) : Option E := (e.at i).map fun y => { e with nd := e.nd.set dp i.toNat { y with l := x } }
def E.stands (e : E) (v : Int) (o : List Nm) (x : Int) : Option E := (e.row v).map fun _ => { e with rw := e.rw.set dp v.toNat (o, x) }
def E.new : E := ⟨.no, 0, Tri.set dp .no 0 ([], 0), 1⟩
def isNat : Int → Bool
 | .ofNat _ => true
 | .negSucc _ => false
def find : Nat → E → Int → Option Int
 | 0, _, _ => none
 | f + 1, e, n => (e.at n).bind fun x => bif isNat x.l then find f e x.l else some n
def whole : Nat → E → Int → List Nm → Option (List Nm × Int)
 | 0, _, _, _ => none
 | f + 1, e, r, l => (e.row r).bind fun o => if l.length + o.1.length < 1000000000 then (if o.2 = -1 then some (joinB l o.1, r) else if o.2 = 0 then some (joinB l o.1, 0) else whole f e o.2 (joinB l o.1)) else none
def sameRow (f : Nat) (e : E) (r s : Int) : Option (Bool × E) :=
 (whole f e r []).bind fun p => (whole f e s []).bind fun q =>
  if p.1.length < 1000000000 ∧ q.1.length < 1000000000 then
   if p.2 = q.2 then some (decide ((less p.1 q.1).length = 0) && decide ((less q.1 p.1).length = 0), e)
   else if p.2 = 0 then (if 0 < (less q.1 p.1).length then some (false, e) else (e.stands q.2 (less p.1 q.1) 0).map fun d => (true, d))
   else if q.2 = 0 then (if 0 < (less p.1 q.1).length then some (false, e) else (e.stands p.2 (less q.1 p.1) 0).map fun d => (true, d))
   else (e.putRow [] (-1)).bind fun x => (x.2.stands p.2 (less q.1 p.1) x.1).bind fun d2 => (d2.stands q.2 (less p.1 q.1) x.1).map fun d => (true, d)
  else none
def same (f : Nat) : Nat → E → Int → Int → Option (Bool × E)
 | 0, _, _, _ => none
 | k + 1, e, m, n => (find f e m).bind fun m => (find f e n).bind fun n =>
  if m = n then some (true, e) else
  (e.at m).bind fun xm => if xm.k = 0 then (e.lnk m n).map fun e => (true, e) else
  (e.at n).bind fun xn => if xn.k = 0 then (e.lnk n m).map fun e => (true, e) else
  if xm.k ≠ xn.k then some (false, e) else
  (e.lnk m n).bind fun e1 =>
  (bif isNat xm.a then same f k e1 xm.a xn.a else some (true, e1)).bind fun p => if p.1 = false then some (false, p.2) else
  (bif isNat xm.b then same f k p.2 xm.b xn.b else some (true, p.2)).bind fun q => if q.1 = false then some (false, q.2) else
  if xm.k = 6 then sameRow f q.2 xm.r xn.r else some (true, q.2)
def round (f : Nat) : Nat → E → Int → List (Int × Int) → Option (Bool × List (Int × Int))
 | 0, _, _, _ => none
 | k + 1, e, n, s => (find f e n).bind fun n =>
  if 0 < (s.lookup n).getD 0 then some (decide ((s.lookup n).getD 0 = 1), s) else
  (e.at n).bind fun x =>
  (bif isNat x.a then round f k e x.a (mput n 1 s) else some (false, mput n 1 s)).bind fun p => if p.1 = true then some (true, p.2) else
  (bif isNat x.b then round f k e x.b p.2 else some (false, p.2)).bind fun q => if q.1 = true then some (true, q.2) else some (false, mput n 2 q.2)
def rowLen (f : Nat) (e : E) (kd r : Int) : Option Int := if kd = 6 then (whole f e r []).bind fun p => if p.1.length < 1000000000 then some (p.1.length : Int) else none else some 0
def parts (f : Nat) : Nat → E → Int → List (Int × Int) → Option (Int × List (Int × Int))
 | 0, _, _, _ => none
 | k + 1, e, n, s => (find f e n).bind fun n =>
  if 0 < (s.lookup n).getD 0 then some ((s.lookup n).getD 0, s) else
  (e.at n).bind fun x =>
  (bif isNat x.a then parts f k e x.a s else some (0, s)).bind fun p =>
  (bif isNat x.b then parts f k e x.b p.2 else some (0, p.2)).bind fun q =>
  (rowLen f e x.k x.r).bind fun y => if (0 ≤ p.1 ∧ p.1 ≤ 1000000) ∧ (0 ≤ q.1 ∧ q.1 ≤ 1000000) then some (min (1 + p.1 + q.1 + y) 1000000, mput n (min (1 + p.1 + q.1 + y) 1000000) q.2) else none
def told (f : Nat) : Nat → E → Int → NM → Option (Ty.P × NM)
 | 0, _, _, _ => none
 | k + 1, e, n, N => (find f e n).bind fun n => (e.at n).bind fun x =>
  if x.k = 0 then (if 0 ≤ (number N.1 n).1 ∧ N.1.length < 1000000000 then some (.var (number N.1 n).1.toNat, ((number N.1 n).2, N.2)) else none) else
  if x.k = 1 ∧ x.a < 0 ∧ x.b < 0 then some (.int, N) else
  if x.k = 2 ∧ x.a < 0 ∧ x.b < 0 then some (.bool, N) else
  if x.k = 3 ∧ x.a < 0 ∧ x.b < 0 then some (.unit, N) else
  if x.k = 4 ∧ 0 ≤ x.a ∧ x.b < 0 then (told f k e x.a N).bind fun y => some (.list y.1, y.2) else
  if x.k = 5 ∧ 0 ≤ x.a ∧ 0 ≤ x.b then (told f k e x.a N).bind fun y => (told f k e x.b y.2).bind fun z => some (.pair y.1 z.1, z.2) else
  if x.k = 6 ∧ 0 ≤ x.a ∧ 0 ≤ x.b then (told f k e x.a N).bind fun y => (whole f e x.r []).bind fun p => (rowNum p.2 y.2.2).bind fun q => (told f k e x.b (y.2.1, q.2)).bind fun z => some (.fn y.1 z.1 p.1 q.1, z.2) else none
def of : Ty.P → E → Option (Int × E)
 | .var _, _ => none
 | .int, e => e.put 1 (-1) (-1) 0
 | .bool, e => e.put 2 (-1) (-1) 0
 | .unit, e => e.put 3 (-1) (-1) 0
 | .list a, e => (of a e).bind fun x => x.2.put 4 x.1 (-1) 0
 | .pair a b, e => (of a e).bind fun x => (of b x.2).bind fun y => y.2.put 5 x.1 y.1 0
 | .fn a b o 0, e => (of a e).bind fun x => (of b x.2).bind fun y => (y.2.putRow o 0).bind fun z => z.2.put 6 x.1 y.1 z.1
 | .fn _ _ _ (_ + 1), _ => none
structure En where
 name : Nm
 t : Int
 all : Bool
 tv : List Int
 rv : List Int
 opn : Bool
structure Opr where
 name : Nm
 ti : Ty.P
 to : Ty.P
abbrev Sets := List Int × List Int × List Int
def vars (f : Nat) : Nat → E → Int → Sets → Option Sets
 | 0, _, _, _ => none
 | k + 1, e, n, s => (find f e n).bind fun n =>
  if n ∈ s.1 then some s else
  (e.at n).bind fun x =>
  if x.k = 0 then some (n :: s.1, n :: s.2.1, s.2.2) else
  (bif isNat x.a then vars f k e x.a (n :: s.1, s.2) else some (n :: s.1, s.2)).bind fun p =>
  (bif isNat x.b then vars f k e x.b p else some p).bind fun q =>
  if x.k = 6 then (whole f e x.r []).bind fun w => if 0 < w.2 then some (q.1, q.2.1, w.2 :: q.2.2) else some q else some q
def sight (f : Nat) (e : E) : List En → Sets → Option Sets
 | [], s => some s
 | x :: r, s =>
  (if x.all then (vars f f e x.t ([], [], [])).map fun p => (s.1, p.2.1.filter (fun k => !x.tv.contains k) ++ s.2.1, p.2.2.filter (fun k => !x.rv.contains k) ++ s.2.2) else vars f f e x.t s).bind fun p => sight f e r p
def general (f : Nat) (e : E) (env : List En) (name : Nm) (n : Int) : Option En :=
 (sight f e env ([], [], [])).bind fun s => (vars f f e n ([], [], [])).map fun v =>
  ⟨name, n, true, v.2.1.filter (fun k => !s.2.1.contains k), v.2.2.filter (fun k => !s.2.2.contains k), true⟩
abbrev Mps := List (Int × Int) × List (Int × Int)
def copied (f : Nat) : Nat → E → En → Int → Mps → Option (Int × E × Mps)
 | 0, _, _, _, _ => none
 | k + 1, e, x, n, s => (find f e n).bind fun n => match s.1.lookup n with
  | some m => some (m, e, s)
  | none => (e.at n).bind fun y =>
   if y.k = 0 then (if n ∈ x.tv then (e.var).map fun p => (p.1, p.2, (mput n p.1 s.1, s.2)) else some (n, e, (mput n n s.1, s.2))) else
   (bif isNat y.a then copied f k e x y.a s else some (-1, e, s)).bind fun p => (p.2.1.at n).bind fun y =>
   (bif isNat y.b then copied f k p.2.1 x y.b p.2.2 else some (-1, p.2)).bind fun q => (q.2.1.at n).bind fun y =>
   (if y.k = 6 then
    (whole f q.2.1 y.r []).bind fun w =>
    (if 0 < w.2 ∧ w.2 ∈ x.rv then (match q.2.2.2.lookup w.2 with
     | some v => some (v, q.2)
     | none => (q.2.1.opn).map fun u => (u.1, u.2, (q.2.2.1, mput w.2 u.1 q.2.2.2))) else some (w.2, q.2)).bind fun u =>
    (u.2.1.putRow w.1 u.1).map fun r => (r.1, r.2, u.2.2)
    else some (0, q.2)).bind fun r => (r.2.1.at n).bind fun y =>
   (r.2.1.put y.k p.1 q.1 r.1).map fun m => (m.1, m.2, (mput n m.1 r.2.2.1, r.2.2.2))
def opened (f : Nat) : Nat → E → Int → Option (Int × E)
 | 0, _, _ => none
 | k + 1, e, n => (find f e n).bind fun n => (e.at n).bind fun x =>
  if x.k = 6 then (opened f k e x.b).bind fun b => (b.2.at n).bind fun x => (whole f b.2 x.r []).bind fun w =>
   (if w.2 = 0 then b.2.opn else some (w.2, b.2)).bind fun v => (v.2.putRow w.1 v.1).bind fun r => (r.2.at n).bind fun x => r.2.put 6 x.a b.1 r.1
  else some (n, e)
def use (f : Nat) (e : E) (x : En) : Option (Int × E) :=
 (if x.all then (copied f f e x x.t ([], [])).map (fun p => (p.1, p.2.1)) else some (x.t, e)).bind fun p => if x.opn then opened f f p.2 p.1 else some p
def samE (f : Nat) (e : E) (m n : Int) : Option E := (same f f e m n).bind fun p => if p.1 then (round f f p.2 m []).bind fun q => if q.1 then none else (round f f p.2 n []).bind fun q => if q.1 then none else some p.2 else none
def rowE (f : Nat) (e : E) (m n : Int) : Option E := (sameRow f e m n).bind fun p => if p.1 then some p.2 else none
def bigE (f : Nat) (e : E) (n : Int) : Option Unit := (parts f f e n []).bind fun p => if p.1 ≤ 300 then some () else none
def typ : Nat → Sy.Tr → Option Ty.P
 | 0, _ => none
 | f + 1, t => match t.kind, t.kids with
  | 24, _ => some .int
  | 25, _ => some .bool
  | 26, _ => some .unit
  | 29, a :: b :: l => if l.length < 1000 then (typ f a).bind fun x => (typ f b).map fun y => .fn x y (joinB [] (l.map (·.name))) 0 else none
  | _, _ => none
def rowsOk (all : List Nm) : Nat → Sy.Tr → Bool
 | 0, _ => false
 | f + 1, t => match t.kind, t.kids with
  | 24, [] => true
  | 25, [] => true
  | 26, [] => true
  | 29, a :: b :: l => rowsOk all f a && (l.all (fun k => all.contains k.name) && decide ((l.map (·.name)).Nodup)) && rowsOk all f b
  | _, _ => false
def opsOf (f : Nat) (all : List Nm) : List Sy.Tr → List Opr → Option (List Opr)
 | [], l => some l
 | t :: r, l => match t.kids with
  | a :: b :: _ =>
   if l.any (fun o => o.name == t.name) then none else
   if rowsOk all f a && rowsOk all f b then (typ f a).bind fun x => (typ f b).bind fun y => if x.parts ≤ 300 ∧ y.parts ≤ 300 then opsOf f all r (l ++ [⟨t.name, x, y⟩]) else none else none
  | _ => none
def value (k : Nat) : Bool := k == 3 || k == 4 || k == 5 || k == 15 || k == 6 || k == 7
def plain (name : Nm) (t : Int) : En := ⟨name, t, false, [], [], false⟩
def opnd (name : Nm) (t : Int) : En := ⟨name, t, false, [], [], true⟩
section
variable (f : Nat) (ops : List Opr)
def bound (X : List En → E → Sy.Tr → Int → Option (Int × E)) (env : List En) (e : E) (t : Sy.Tr) : Option (Int × E) :=
 (e.opn).bind fun r => match t.kids with
  | a :: _ =>
   if t.num = 0 then X env r.2 a r.1 else
   (r.2.var).bind fun v => (X (env ++ [plain t.name v.1]) v.2 a r.1).bind fun p => (samE f p.2 v.1 p.1).map fun e => (p.1, e)
  | _ => none
def letE (X : List En → E → Sy.Tr → Int → Option (Int × E)) (env : List En) (e : E) (t : Sy.Tr) (row : Int) : Option (Int × E) := match t.kids with
 | a :: b :: _ =>
  (if t.num = 1 then (bound f X env e t).bind fun p => (bigE f p.2 p.1).bind fun _ => (general f p.2 env t.name p.1).map fun x => (x, p.2)
   else (X env e a row).bind fun p => (bigE f p.2 p.1).bind fun _ => if value a.kind then (general f p.2 env t.name p.1).map fun x => (x, p.2) else some (plain t.name p.1, p.2)).bind fun q =>
  X (env ++ [q.1]) q.2 b row
 | _ => none
def findE (name : Nm) : List En → Option En
 | [] => none
 | x :: r => match findE name r with
  | some y => some y
  | none => if x.name = name then some x else none
def clausesE (X : List En → E → Sy.Tr → Int → Option (Int × E)) (env : List En) (sh : Bool) (t b row inner : Int) : List Sy.Tr → E → Option E
 | [], e => some e
 | k :: r, e => match ops.find? (fun o => o.name == k.name), k.kids with
  | some o, y :: z :: c :: _ =>
   (of o.ti e).bind fun i => (of o.to i.2).bind fun u => (u.2.put 6 u.1 b row).bind fun p =>
   (if sh then p.2.put 6 u.1 t inner else some p).bind fun p =>
   (X (env ++ [opnd y.name i.1, opnd z.name p.1]) p.2 c row).bind fun q => (samE f q.2 q.1 b).bind fun e => clausesE X env sh t b row inner r e
  | _, _ => none
def handleE (X : List En → E → Sy.Tr → Int → Option (Int × E)) (env : List En) (e : E) (t : Sy.Tr) (row : Int) : Option (Int × E) := match t.kids with
 | a :: z :: l => match z.kids with
  | c :: _ =>
   if l.all (fun k => ops.any (fun o => o.name == k.name)) ∧ (l.map (·.name)).Nodup then
    (e.putRow (l.map (·.name)) row).bind fun i => (X env i.2 a i.1).bind fun p => (X (env ++ [plain z.name p.1]) p.2 c row).bind fun q =>
    (clausesE f ops X env (t.num == 1) p.1 q.1 row i.1 l q.2).map fun e => (q.1, e)
   else none
  | _ => none
 | _ => none
def exprE : Nat → List En → E → Sy.Tr → Int → Option (Int × E)
 | 0, _, _, _, _ => none
 | k + 1, env, e, t, row => match t.kind, t.kids with
  | 3, _ => e.put 1 (-1) (-1) 0
  | 4, _ => e.put 2 (-1) (-1) 0
  | 5, _ => e.put 3 (-1) (-1) 0
  | 15, _ => (e.var).bind fun v => v.2.put 4 v.1 (-1) 0
  | 6, _ => (findE t.name env).bind fun x => use f e x
  | 7, a :: _ => (e.var).bind fun v => (v.2.opn).bind fun r => (exprE k (env ++ [plain t.name v.1]) r.2 a r.1).bind fun b => b.2.put 6 v.1 b.1 r.1
  | 8, a :: b :: _ => (exprE k env e a row).bind fun x => (exprE k env x.2 b row).bind fun y => (y.2.var).bind fun p => (p.2.var).bind fun c => (c.2.opn).bind fun q => (q.2.put 6 p.1 c.1 q.1).bind fun t =>
   (samE f t.2 x.1 t.1).bind fun e => (samE f e p.1 y.1).bind fun e => (rowE f e q.1 row).map fun e => (c.1, e)
  | 9, _ => letE f (exprE k) env e t row
  | 10, a :: b :: _ => (exprE k env e a row).bind fun x => exprE k env x.2 b row
  | 11, a :: b :: c :: _ => (exprE k env e a row).bind fun x => (x.2.put 2 (-1) (-1) 0).bind fun y => (samE f y.2 x.1 y.1).bind fun e => (exprE k env e b row).bind fun u => (exprE k env u.2 c row).bind fun v => (samE f v.2 v.1 u.1).map fun e => (u.1, e)
  | 12, a :: b :: _ => (exprE k env e a row).bind fun x => (exprE k env x.2 b row).bind fun y => y.2.put 5 x.1 y.1 0
  | 13, a :: _ => (exprE k env e a row).bind fun x => (x.2.var).bind fun u => (u.2.var).bind fun v => (v.2.put 5 u.1 v.1 0).bind fun p => (samE f p.2 x.1 p.1).map fun e => (u.1, e)
  | 14, a :: _ => (exprE k env e a row).bind fun x => (x.2.var).bind fun u => (u.2.var).bind fun v => (v.2.put 5 u.1 v.1 0).bind fun p => (samE f p.2 x.1 p.1).map fun e => (v.1, e)
  | 16, a :: b :: _ => (exprE k env e a row).bind fun x => (exprE k env x.2 b row).bind fun y => (y.2.put 4 x.1 (-1) 0).bind fun l => (samE f l.2 y.1 l.1).map fun e => (y.1, e)
  | 17, a :: b :: x :: y :: c :: _ => (exprE k env e a row).bind fun a => (a.2.var).bind fun v => (v.2.put 4 v.1 (-1) 0).bind fun l => (samE f l.2 a.1 l.1).bind fun e => (exprE k env e b row).bind fun t =>
   (exprE k (env ++ [plain x.name v.1, plain y.name l.1]) t.2 c row).bind fun u => (samE f u.2 u.1 t.1).map fun e => (t.1, e)
  | 18, a :: b :: _ => (exprE k env e a row).bind fun x => (x.2.put 1 (-1) (-1) 0).bind fun i => (samE f i.2 x.1 i.1).bind fun e => (exprE k env e b row).bind fun y => (y.2.put 1 (-1) (-1) 0).bind fun j => (samE f j.2 y.1 j.1).bind fun e =>
   if t.name = [60] ∨ t.name = [61, 61] then e.put 2 (-1) (-1) 0 else e.put 1 (-1) (-1) 0
  | 19, a :: _ => (ops.find? (fun o => o.name == t.name)).bind fun o => (exprE k env e a row).bind fun x => (of o.ti x.2).bind fun i => (of o.to i.2).bind fun u => (samE f u.2 x.1 i.1).bind fun e => (e.opn).bind fun v => (v.2.putRow [t.name] v.1).bind fun r => (rowE f r.2 row r.1).map fun e => (u.1, e)
  | 20, _ => handleE f ops (exprE k) env e t row
  | _, _ => none
def defsE (k : Nat) : List Sy.Tr → List En → E → List (Nm × Ty.P) → Option (List En × E × List (Nm × Ty.P))
 | [], env, e, out => some (env, e, out)
 | d :: r, env, e, out =>
  if out.any (fun o => o.1 == d.name) then none else
  (bound f (exprE f ops k) env e d).bind fun p => (bigE f p.2 p.1).bind fun _ => (general f p.2 env d.name p.1).bind fun x =>
  (told f f p.2 p.1 ([], [])).bind fun s => defsE k r (env ++ [x]) p.2 (out ++ [(d.name, s.1)])
def foundE (k : Nat) (t : Sy.Tr) : Option (List (Nm × Ty.P)) :=
 if t.num < 0 then none else
 (defsE f ops k ((t.kids.drop t.num.toNat).dropLast) [] E.new []).bind fun p => (t.kids.getLast?).bind fun m =>
 (p.2.1.putRow [] 0).bind fun n => (exprE f ops k p.1 n.2 m n.1).bind fun q => (bigE f q.2 q.1).bind fun _ => (told f f q.2 q.1 ([], [])).map fun s => p.2.2 ++ [([109, 97, 105, 110], s.1)]
end
def checkE (f k : Nat) (t : Sy.Tr) : Option (List (Nm × Ty.P)) :=
 if t.kind = 0 then (opsOf f ((t.kids.take t.num.toNat).map (·.name)) (t.kids.take t.num.toNat) []).bind fun ops => foundE f ops k t else none
end Ie
end Go.Proofs.Ytejciampbnfbhaa
