/-
  Texts of tokens, joined by blanks, have those tokens: plain laws, no program is named here.
  Reading rows of texts: what the reader that stops at its first fault makes of tokens whose texts are known; plain laws, no program is named here.
  A type's tokens are read as that type: plain laws, no program is named here.
  A type's tokens are read as that type, whole: plain laws, no program is named here.
  Expressions that may have been read, and the loops of the reader: plain laws, no program is named here.
  The reader's upper levels, from level to level: plain laws, no program is named here.
  Applications, products, sums; what stands in brackets; leaves: plain laws, no program is named here.
  Leaves, pairs, and what begins with a word: plain laws, no program is named here.
  What begins with fn, let, if: plain laws, no program is named here.
  What begins with let rec, case, handle: plain laws, no program is named here.
  What begins with handle or shallow: plain laws, no program is named here.
  Numbers, written and read: plain laws, no program is named here.
  With what token an expression begins: plain laws, no program is named here.
  An expression's tokens are read as that expression: plain laws, no program is named here.
  An op's and a def's tokens are read as that op and that def: plain laws, no program is named here.
  A program's tokens are read as that program: plain laws, no program of the project is named here.
-/
import Derived.Test.YtoajnlhegallpaaGreatDoorMBa
set_option linter.unusedVariables false
set_option linter.unusedSimpArgs false
namespace Go.Proofs.YtoajnlhegallpaaGreatDoor
namespace Lx

def tokOf (pos : Nat) (x : List UInt8) : Tk :=
 if (x.head?.map isDig).getD false then ⟨1, pos, [], numVal x⟩ else if (x.head?.map isLet).getD false then ⟨if isWd x then 3 else 2, pos, x, 0⟩ else ⟨4, pos, x, 0⟩
def Lexes (x : List UInt8) : Prop :=
 x ≠ [] ∧ (∀ c, x.head? = some c → isBl c = false ∧ c.toNat ≠ 35) ∧ ∀ pos r, (r = [] ∨ r.head? = some 32) → tokAt pos (x ++ r) = .ok (tokOf pos x, x.length)

def joinB : List (List UInt8) → List UInt8
 | [] => []
 | [x] => x
 | x :: y :: r => x ++ [32] ++ joinB (y :: r)
def toksOf : Nat → List (List UInt8) → List Tk
 | _, [] => []
 | pos, x :: r => tokOf pos x :: toksOf (pos + x.length + 1) r

theorem takeWhile_all {p : UInt8 → Bool} (x r : List UInt8) (h : ∀ c ∈ x, p c = true) (hr : ∀ c, r.head? = some c → p c = false) : (x ++ r).takeWhile p = x := by
 induction x with
 | nil =>
  cases r with
  | nil => rfl
  | cons c r =>
   have := hr c rfl
   simp [this]
 | cons c x ih =>
  have h1 := h c (by simp)
  simp only [List.cons_append, List.takeWhile_cons, h1, if_true]
  rw [ih (fun d hd => h d (by simp [hd]))]
theorem bl_end {r : List UInt8} {p : UInt8 → Bool} (hr : r = [] ∨ r.head? = some 32) (hp : p 32 = false) : ∀ c, r.head? = some c → p c = false := by
 intro c hc
 rcases hr with rfl | h
 ·simp at hc
 ·rw [h] at hc
  cases hc
  exact hp
theorem lexes_num (c : UInt8) (r : List UInt8) (h : ∀ d ∈ c :: r, isDig d = true) (ho : okNum (c :: r) = true) : Lexes (c :: r) := by
 have hc := h c (by simp)
 refine ⟨by simp, ?_, ?_⟩
 ·intro d hd
  simp only [List.head?_cons, Option.some.injEq] at hd
  subst hd
  simp only [isDig, Bool.and_eq_true, decide_eq_true_eq] at hc
  refine ⟨?_, by omega⟩
  simp only [isBl, Bool.or_eq_false_iff, beq_eq_false_iff_ne]
  omega
 ·intro pos s hs
  rw [List.cons_append, tokAt_dig pos c (r ++ s) hc, ← List.cons_append, takeWhile_all (c :: r) s h (bl_end hs (by decide)), if_pos ho]
  simp [tokOf, hc]
theorem let_dig {c : UInt8} (h : isLet c = true) : isDig c = false := by
 simp only [isLet, isDig, Bool.or_eq_true, Bool.and_eq_true, decide_eq_true_eq, beq_iff_eq] at h
 simp only [isDig, Bool.and_eq_false_iff, decide_eq_false_iff_not]
 omega
theorem lexes_name (c : UInt8) (r : List UInt8) (hc : isLet c = true) (h : ∀ d ∈ c :: r, isNm d = true) (hl : (c :: r).length ≤ 20) : Lexes (c :: r) := by
 have hd := let_dig hc
 refine ⟨by simp, ?_, ?_⟩
 ·intro d he
  simp only [List.head?_cons, Option.some.injEq] at he
  subst he
  simp only [isLet, Bool.or_eq_true, Bool.and_eq_true, decide_eq_true_eq, beq_iff_eq] at hc
  refine ⟨?_, by omega⟩
  simp only [isBl, Bool.or_eq_false_iff, beq_eq_false_iff_ne]
  omega
 ·intro pos s hs
  rw [List.cons_append, tokAt_let pos c (r ++ s) hd hc, ← List.cons_append, takeWhile_all (c :: r) s h (bl_end hs (by decide)), if_pos hl]
  simp [tokOf, hd, hc]
theorem lexes_sign {x : List UInt8} (h : x ∈ twos ∨ ∃ c ∈ sigBytes, x = [c]) : Lexes x := by
 have key : ∀ y ∈ twos ++ sigBytes.map (fun c => [c]), (y ≠ [] ∧ (y.head?.map isDig).getD false = false ∧ (y.head?.map isLet).getD false = false ∧ (y.head?.map isSg).getD false = true ∧ (y.head?.map isBl).getD false = false ∧ (y.head?.map (fun c => c.toNat == 35)).getD false = false ∧
   signLen y = y.length ∧ signLen (y ++ [32]) = y.length) := by decide
 have hm : x ∈ twos ++ sigBytes.map (fun c => [c]) := by
  rcases h with h | ⟨c, hc, rfl⟩
  ·simp [h]
  ·simp only [List.mem_append, List.mem_map]; exact .inr ⟨c, hc, rfl⟩
 obtain ⟨h1, h2, h3, h4, h5, h6, h7, h8⟩ := key x hm
 obtain ⟨c, r, rfl⟩ : ∃ c r, x = c :: r := by
  cases x with
  | nil => exact absurd rfl h1
  | cons c r => exact ⟨c, r, rfl⟩
 simp only [List.head?_cons, Option.map_some, Option.getD_some, beq_eq_false_iff_ne] at h2 h3 h4 h5 h6
 refine ⟨h1, ?_, ?_⟩
 ·intro d he
  simp only [List.head?_cons, Option.some.injEq] at he
  subst he
  exact ⟨h5, h6⟩
 ·intro pos s hs
  rw [List.cons_append, tokAt_sg pos c (r ++ s) h2 h3 h4, ← List.cons_append]
  have e : signLen (c :: r ++ s) = (c :: r).length := by
   rcases hs with rfl | hs
   ·rw [List.append_nil]; exact h7
   ·cases s with
    | nil => simp at hs
    | cons d s =>
     simp only [List.head?_cons, Option.some.injEq] at hs
     subst hs
     have e2 : signLen (c :: r ++ 32 :: s) = signLen (c :: r ++ [32]) := by
      unfold signLen
      cases r with
      | nil => simp
      | cons d r => simp
     rw [e2]
     exact h8
  rw [e]
  simp [tokOf, h2, h3]

theorem toks_join (N : Nat) : ∀ (xs : List (List UInt8)) (pos : Nat), (∀ x ∈ xs, Lexes x) → toks N pos (joinB xs) = (toksOf pos xs, (0, 0)) := by
 intro xs
 induction xs with
 | nil => intro pos _; simp [joinB, toksOf, toks_nil]
 | cons x r ih =>
  intro pos h
  obtain ⟨h1, h2, h3⟩ := h x (by simp)
  obtain ⟨c, l, rfl⟩ : ∃ c l, x = c :: l := by
   cases x with
   | nil => exact absurd rfl h1
   | cons c l => exact ⟨c, l, rfl⟩
  obtain ⟨hb, hh⟩ := h2 c rfl
  cases r with
  | nil =>
   have ht := h3 pos [] (.inl rfl)
   rw [List.append_nil] at ht
   simp only [joinB, toksOf]
   rw [toks_tok _ _ _ _ (by simp [hb]) hh ht, List.drop_length, toks_nil]
   rfl
  | cons y r =>
   have ht := h3 pos ([32] ++ joinB (y :: r)) (.inr rfl)
   have e : joinB ((c :: l) :: y :: r) = c :: (l ++ ([32] ++ joinB (y :: r))) := by simp [joinB]
   rw [List.cons_append] at ht
   rw [e, toks_tok _ _ _ _ (by simp [hb]) hh ht]
   have e2 : (c :: (l ++ ([32] ++ joinB (y :: r)))).drop (c :: l).length = 32 :: joinB (y :: r) := by simp
   rw [e2, toks_blank _ _ _ _ (by decide), ih (pos + (c :: l).length + 1) (fun z hz => h z (by simp [hz]))]
   rfl
end Lx

namespace Sy
open Lx

def EqT : Nat → Tr → Tr → Prop
 | 0, _, _ => False
 | n + 1, T, U => T.kind = U.kind ∧ T.name = U.name ∧ T.num = U.num ∧ T.kids.length = U.kids.length ∧ ∀ i (h : i < T.kids.length) (h' : i < U.kids.length), EqT n T.kids[i] U.kids[i]
theorem EqT.up : ∀ {n : Nat} {T U : Tr}, EqT n T U → EqT (n + 1) T U := by
 intro n
 induction n with
 | zero => intro T U h; exact h.elim
 | succ n ih =>
  rintro T U ⟨h1, h2, h3, h4, h5⟩
  exact ⟨h1, h2, h3, h4, fun i h h' => ih (h5 i h h')⟩
theorem EqT.le {n m : Nat} {T U : Tr} (h : EqT n T U) (hm : n ≤ m) : EqT m T U := by
 induction m with
 | zero =>
  have : n = 0 := by omega
  subst this
  exact h
 | succ m ih =>
  by_cases e : n = m + 1
  ·subst e; exact h
  ·exact (ih (by omega)).up

def Mt (x : List UInt8) (t : Tk) : Prop := ∃ pos, t = tokOf pos x
def Ms : List (List UInt8) → List Tk → Prop
 | [], us => us = []
 | x :: xs, us => ∃ t r, us = t :: r ∧ Mt x t ∧ Ms xs r
theorem Ms.app : ∀ {xs ys : List (List UInt8)} {us : List Tk}, Ms (xs ++ ys) us → ∃ u v, us = u ++ v ∧ Ms xs u ∧ Ms ys v := by
 intro xs
 induction xs with
 | nil => intro ys us h; exact ⟨[], us, rfl, rfl, h⟩
 | cons x xs ih =>
  rintro ys us ⟨t, r, rfl, h1, h2⟩
  obtain ⟨u, v, rfl, h3, h4⟩ := ih h2
  exact ⟨t :: u, v, rfl, ⟨t, u, rfl, h1, h3⟩, h4⟩
theorem Ms.toks : ∀ (xs : List (List UInt8)) (pos : Nat), Ms xs (toksOf pos xs) := by
 intro xs
 induction xs with
 | nil => intro pos; rfl
 | cons x r ih => intro pos; exact ⟨_, _, rfl, ⟨pos, rfl⟩, ih _⟩
theorem Ms.len : ∀ {xs : List (List UInt8)} {us : List Tk}, Ms xs us → us.length = xs.length := by
 intro xs
 induction xs with
 | nil => intro us h; rw [show us = [] from h]; rfl
 | cons x xs ih => rintro us ⟨t, r, rfl, _, h⟩; simp [ih h]

variable {z : Env} {N : Nat}
def hd (z : Env) (r : List Tk) : Tk := r.headD (endTk z)
theorem look_hd (hz : z.fin.1 = 0) (r : List Tk) : lookB z r = .ok (hd z r, r) := by
 cases r with
 | nil => simp [lookB, hz, hd]
 | cons t r => rfl
theorem bnd_look {β : Type} (hz : z.fin.1 = 0) (r : List Tk) (f : Tk → List Tk → R β) : bnd (lookB z r) f = f (hd z r) r := by rw [look_hd hz]; rfl
theorem ite_no {α : Type} (hz : z.fin.1 = 0) {x : List UInt8} {r : List Tk} {yes no : List Tk → R α} (h : (hd z r).text ≠ x) : iteB z x r yes no = no r := by
 unfold iteB
 rw [bnd_look hz, if_neg (by simpa using h)]
theorem ite_yes {α : Type} {x : List UInt8} {t : Tk} {r : List Tk} {yes no : List Tk → R α} (h : t.text = x) : iteB z x (t :: r) yes no = yes r := by
 unfold iteB
 rw [show lookB z (t :: r) = .ok (t, t :: r) from rfl]
 simp [bnd, h]
theorem need_yes {x : List UInt8} {t : Tk} {r : List Tk} (h : t.text = x) : needB z x (t :: r) = .ok ((), r) := by
 unfold needB
 rw [show lookB z (t :: r) = .ok (t, t :: r) from rfl]
 simp [bnd, h]
theorem kind_yes {k : Nat} {t : Tk} {r : List Tk} (h : t.kind = k) : kindB z k (t :: r) = .ok (t, r) := by
 unfold kindB
 rw [show lookB z (t :: r) = .ok (t, t :: r) from rfl]
 simp [bnd, h]
theorem mt_key {x : List UInt8} {t : Tk} (h : Mt x t) (hx : (x.head?.map isDig).getD false = false) : t.text = x := by
 obtain ⟨pos, rfl⟩ := h
 unfold tokOf
 rw [if_neg (by simp [hx])]
 split <;> rfl
theorem mt_name {x : List UInt8} {t : Tk} (h : Mt x t) (hl : (x.head?.map isLet).getD false = true) (hd : (x.head?.map isDig).getD false = false) (hw : isWd x = false) : t.kind = 2 ∧ t.text = x := by
 obtain ⟨pos, rfl⟩ := h
 unfold tokOf
 rw [if_neg (by simp [hd]), if_pos hl]
 simp [hw]
theorem mt_num {x : List UInt8} {t : Tk} (h : Mt x t) (hd : (x.head?.map isDig).getD false = true) : t.kind = 1 ∧ t.num = numVal x := by
 obtain ⟨pos, rfl⟩ := h
 unfold tokOf
 rw [if_pos hd]
 exact ⟨rfl, rfl⟩
end Sy

namespace Sy
open Lx

def NmOK (x : List UInt8) : Prop := (x.head?.map isLet).getD false = true ∧ (x.head?.map isDig).getD false = false ∧ isWd x = false ∧ Lexes x
def Gt : Nat → Tr → Prop
 | 0, _ => False
 | n + 1, t => t.name = [] ∧ t.num = 0 ∧ (
  ((t.kind = 24 ∨ t.kind = 25 ∨ t.kind = 26) ∧ t.kids = []) ∨
  (t.kind = 27 ∧ ∃ a, t.kids = [a] ∧ Gt n a) ∨
  (t.kind = 28 ∧ ∃ a b, t.kids = [a, b] ∧ Gt n a ∧ Gt n b) ∨
  (t.kind = 29 ∧ ∃ a b ns, t.kids = a :: b :: ns ∧ Gt n a ∧ Gt n b ∧ ∀ q ∈ ns, q.kind = 23 ∧ q.num = 0 ∧ q.kids = [] ∧ NmOK q.name))

def StT (l : Int) (t : Tk) : Prop := t.text ≠ w_list ∧ (l ≤ 1 → t.text ≠ s_star) ∧ (l ≤ 0 → t.text ≠ s_minus ∧ t.text ≠ s_arrow)
theorem StT.up {l m : Int} {t : Tk} (h : StT l t) (hm : l ≤ m) : StT m t := ⟨h.1, fun e => h.2.1 (by omega), fun e => h.2.2 (by omega)⟩

variable {z : Env} {N : Nat}
def ReadsT (z : Env) (N n : Nat) (T : Tr) (xs : List (List UInt8)) (l : Int) (P : List Tk → R Tr) : Prop := ∀ us, Ms xs us → us.length < N → ∃ U, EqT n T U ∧ ∀ r, StT l (hd z r) → P (us ++ r) = .ok (U, r)

theorem lists_stop (hz : z.fin.1 = 0) {n : Nat} {U : Tr} {r : List Tk} (hn : 0 < n) (h : (hd z r).text ≠ w_list) : listsB z n U r = .ok (U, r) := by
 obtain ⟨n, rfl⟩ : ∃ m, n = m + 1 := ⟨n - 1, by omega⟩
 simp only [listsB]
 rw [ite_no hz h]
theorem lists_more {n : Nat} {U : Tr} {t : Tk} {r : List Tk} (hn : 0 < n) (h : t.text = w_list) : listsB z n U (t :: r) = listsB z (n - 1) (nd 27 U.pos [U]) r := by
 obtain ⟨n, rfl⟩ : ∃ m, n = m + 1 := ⟨n - 1, by omega⟩
 simp only [listsB]
 rw [ite_yes h]
 rfl
theorem eq_one {n k p : Nat} {T a U : Tr} (h : EqT n a U) (hk : T.kind = k) (hx : T.name = []) (hm : T.num = 0) (hl : T.kids = [a]) : EqT (n + 1) T (nd k p [U]) := by
 refine ⟨hk, hx, hm, by rw [hl]; rfl, fun i h1 h2 => ?_⟩
 have e : i = 0 := by simp only [hl, List.length_singleton] at h1; omega
 subst e
 simp only [hl]
 exact h
theorem eq_two {n k p : Nat} {T a b U V : Tr} (h : EqT n a U) (h' : EqT n b V) (hk : T.kind = k) (hx : T.name = []) (hm : T.num = 0) (hl : T.kids = [a, b]) : EqT (n + 1) T (nd k p [U, V]) := by
 refine ⟨hk, hx, hm, by rw [hl]; rfl, fun i h1 h2 => ?_⟩
 simp only [hl, List.length_cons, List.length_nil] at h1
 obtain rfl | rfl : i = 0 ∨ i = 1 := by omega
 ·simp only [hl]; exact h
 ·simp only [hl]; exact h'

def SomeC (z : Env) (N : Nat) (n : Nat) (T : Tr) (xs : List (List UInt8)) (E : List Tk → R Tr) : Prop :=
 ∀ us, Ms xs us → us.length < N → ∃ m U, m < us.length ∧ EqT n T U ∧ ∀ r, someB z N E (us ++ r) = listsB z (N - m) U r

theorem st_rp {q : Tk} (hq : q.text = [41]) (l : Int) (r : List Tk) : StT l (hd z (q :: r)) := by
 show StT l q
 refine ⟨?_, fun _ => ?_, fun _ => ⟨?_, ?_⟩⟩ <;> rw [hq] <;> decide
theorem some_paren {n : Nat} {T : Tr} {xs : List (List UInt8)} {E : List Tk → R Tr} (hE : ReadsT z N n T xs 0 E) : SomeC z N n T ([40] :: xs ++ [[41]]) E := by
 rintro us ⟨t, r1, rfl, h1, h2⟩ hN
 obtain ⟨u, v, rfl, h3, h4⟩ := Ms.app h2
 obtain ⟨q, r2, rfl, h5, rfl⟩ := h4
 have ht := mt_key h1 (by decide)
 have hq := mt_key h5 (by decide)
 obtain ⟨U, hU, hR⟩ := hE u h3 (by simp at hN; omega)
 refine ⟨0, U, by simp, hU, fun r => ?_⟩
 have e : t :: (u ++ [q]) ++ r = t :: (u ++ (q :: r)) := by simp
 rw [e]
 unfold someB tatomB
 rw [show lookB z (t :: (u ++ (q :: r))) = .ok (t, t :: (u ++ (q :: r))) from rfl]
 simp only [bnd, ht, s_lp, beq_self_eq_true, if_true, List.tail_cons]
 rw [hR (q :: r) (st_rp hq 0 r)]
 simp only []
 rw [need_yes (by rw [hq]; rfl)]
 rfl
theorem some_leaf {n : Nat} {T : Tr} {E : List Tk → R Tr} (hx : T.name = []) (hm : T.num = 0) (hl : T.kids = []) (hk : T.kind = 24 ∨ T.kind = 25 ∨ T.kind = 26) : SomeC z N (n + 1) T (tk (n + 1) T) E := by
 have key : ∃ x, tk (n + 1) T = [x] ∧ ((T.kind = 24 ∧ x = w_int) ∨ (T.kind = 25 ∧ x = w_bool) ∨ (T.kind = 26 ∧ x = w_unit)) := by
  rcases hk with h | h | h
  ·exact ⟨w_int, by simp [tk, h, leafTk, w_int], .inl ⟨h, rfl⟩⟩
  ·exact ⟨w_bool, by simp [tk, h, leafTk, w_bool], .inr (.inl ⟨h, rfl⟩)⟩
  ·exact ⟨w_unit, by simp [tk, h, leafTk, w_unit], .inr (.inr ⟨h, rfl⟩)⟩
 obtain ⟨x, e, hc⟩ := key
 rw [e]
 rintro us ⟨t, r1, rfl, h1, rfl⟩ hN
 have hE : ∀ k, T.kind = k → EqT (n + 1) T (nd k t.pos []) := fun k h => ⟨h, hx, hm, by rw [hl]; rfl, fun i h1 => by simp [hl] at h1⟩
 rcases hc with ⟨h, rfl⟩ | ⟨h, rfl⟩ | ⟨h, rfl⟩
 all_goals
  have ht := mt_key h1 (by decide)
  refine ⟨0, _, by simp, hE _ h, fun r => ?_⟩
  unfold someB tatomB
  rw [show lookB z ([t] ++ r) = .ok (t, t :: r) from rfl]
  simp only [bnd, ht]
  rfl
theorem some_list {n : Nat} {T a : Tr} {xs : List (List UInt8)} {E : List Tk → R Tr} (hx : T.name = []) (hm : T.num = 0) (hl : T.kids = [a]) (hk : T.kind = 27) (h : SomeC z N n a xs E) : SomeC z N (n + 1) T (xs ++ [w_list]) E := by
 rintro us hu hN
 obtain ⟨u, v, rfl, h3, h4⟩ := Ms.app hu
 obtain ⟨q, r2, rfl, h5, rfl⟩ := h4
 have hq := mt_key h5 (by decide)
 simp only [List.length_append, List.length_singleton] at hN
 obtain ⟨m, U, hm1, hE, hR⟩ := h u h3 (by omega)
 refine ⟨m + 1, nd 27 U.pos [U], by simp; omega, eq_one hE hk hx hm hl, fun r => ?_⟩
 rw [List.append_assoc, hR, List.singleton_append, lists_more (by omega) hq]
 rfl
theorem some_in {n : Nat} {a : Tr} {E : List Tk → R Tr} (hE : ReadsT z N n a (tk n a) 0 E) (h : 2 ≤ levP a.kind a.name → SomeC z N n a (tk n a) E) : SomeC z N n a (inP (tk n) a 2) E := by
 unfold inP
 split
 ·rename_i hl
  exact h hl
 ·exact some_paren hE

theorem some_any {n : Nat} {E : List Tk → R Tr} (hE : ∀ a, Gt n a → ReadsT z N n a (tk n a) 0 E) (hS : ∀ a, Gt n a → 2 ≤ levP a.kind a.name → SomeC z N n a (tk n a) E) (T : Tr) (hT : Gt (n + 1) T) (h2 : 2 ≤ levP T.kind T.name) : SomeC z N (n + 1) T (tk (n + 1) T) E := by
 obtain ⟨hx, hm, h⟩ := hT
 rcases h with ⟨hk, hl⟩ | ⟨hk, a, hl, ha⟩ | ⟨hk, _⟩ | ⟨hk, _⟩
 ·exact some_leaf hx hm hl hk
 ·have e : tk (n + 1) T = inP (tk n) a 2 ++ [w_list] := by simp [tk, hk, hl, w_list]
  rw [e]
  exact some_list hx hm hl hk (some_in (hE a ha) (hS a ha))
 ·rw [hk] at h2; exact absurd h2 (by simp [levP])
 ·rw [hk] at h2; exact absurd h2 (by simp [levP])
end Sy

namespace Sy
open Lx
variable {z : Env} {N : Nat}

def PairR (z : Env) (N n : Nat) (T : Tr) (xs : List (List UInt8)) (E : List Tk → R Tr) : Prop :=
 ∀ us, Ms xs us → us.length < N → ∃ U, EqT n T U ∧ ∀ p r, us.length ≤ p → StT 1 (hd z r) → pairB z N E p (us ++ r) = .ok (U, r)

theorem pair_some (hz : z.fin.1 = 0) {n : Nat} {T : Tr} {xs : List (List UInt8)} {E : List Tk → R Tr} (h : SomeC z N n T xs E) : PairR z N n T xs E := by
 intro us hu hN
 obtain ⟨m, U, hm, hU, hR⟩ := h us hu hN
 refine ⟨U, hU, fun p r hp hs => ?_⟩
 obtain ⟨p, rfl⟩ : ∃ q, p = q + 1 := ⟨p - 1, by omega⟩
 simp only [pairB]
 rw [hR, lists_stop hz (by omega) hs.1]
 simp only [bnd]
 rw [ite_no hz (hs.2.1 (by omega))]
theorem pair_two (hz : z.fin.1 = 0) {n : Nat} {T a b : Tr} {xs ys : List (List UInt8)} {E : List Tk → R Tr} (hx : T.name = []) (hm : T.num = 0) (hl : T.kids = [a, b]) (hk : T.kind = 28) (h : SomeC z N n a xs E) (h' : PairR z N n b ys E) :
  PairR z N (n + 1) T (xs ++ [[42]] ++ ys) E := by
 intro us hu hN
 obtain ⟨u, v, rfl, h1, h2⟩ := Ms.app hu
 obtain ⟨u1, w, rfl, h3, h4⟩ := Ms.app h1
 obtain ⟨q, r2, rfl, h5, rfl⟩ := h4
 have hq : q.text = s_star := mt_key h5 (by decide)
 simp only [List.length_append, List.length_singleton] at hN
 obtain ⟨m, U, hmm, hU, hR⟩ := h u1 h3 (by omega)
 obtain ⟨V, hV, hR2⟩ := h' v h2 (by omega)
 refine ⟨nd 28 U.pos [U, V], eq_two hU hV hk hx hm hl, fun p r hp hs => ?_⟩
 simp only [List.length_append, List.length_singleton] at hp
 obtain ⟨p, rfl⟩ : ∃ q, p = q + 1 := ⟨p - 1, by omega⟩
 have e : u1 ++ [q] ++ v ++ r = u1 ++ (q :: (v ++ r)) := by simp
 rw [e]
 simp only [pairB]
 rw [hR, lists_stop hz (by omega) (by show q.text ≠ w_list; rw [hq]; decide)]
 simp only [bnd]
 rw [ite_yes hq, hR2 p r (by omega) hs]
theorem some_all : ∀ (n : Nat) {E : List Tk → R Tr}, (∀ m a, m < n → Gt m a → ReadsT z N m a (tk m a) 0 E) → ∀ T, Gt n T → 2 ≤ levP T.kind T.name → SomeC z N n T (tk n T) E := by
 intro n
 induction n with
 | zero => intro E _ T h; exact h.elim
 | succ n ih =>
  intro E hE T hT h2
  exact some_any (fun a ha => hE n a (by omega) ha) (ih (fun m a hm ha => hE m a (by omega) ha)) T hT h2
theorem pair_in {n : Nat} {a : Tr} {E : List Tk → R Tr} (hz : z.fin.1 = 0) (hE : ReadsT z N n a (tk n a) 0 E) (h : 1 ≤ levP a.kind a.name → PairR z N n a (tk n a) E) : PairR z N n a (inP (tk n) a 1) E := by
 unfold inP
 split
 ·rename_i hl
  exact h hl
 ·exact pair_some hz (some_paren hE)
theorem pair_all (hz : z.fin.1 = 0) : ∀ (n : Nat) {E : List Tk → R Tr}, (∀ m a, m < n → Gt m a → ReadsT z N m a (tk m a) 0 E) → ∀ T, Gt n T → 1 ≤ levP T.kind T.name → PairR z N n T (tk n T) E := by
 intro n
 induction n with
 | zero => intro E _ T h; exact h.elim
 | succ n ih =>
  intro E hE T hT h1
  by_cases h2 : 2 ≤ levP T.kind T.name
  ·exact pair_some hz (some_all (n + 1) hE T hT h2)
  ·have hT2 := hT
   obtain ⟨hx, hm, h⟩ := hT
   rcases h with ⟨hk, hl⟩ | ⟨hk, a, hl, ha⟩ | ⟨hk, a, b, hl, ha, hb⟩ | ⟨hk, _⟩
   ·exact absurd (by rcases hk with h | h | h <;> rw [h] <;> simp [levP]) h2
   ·exact absurd (by rw [hk]; simp [levP]) h2
   ·have e : tk (n + 1) T = inP (tk n) a 2 ++ [[42]] ++ inP (tk n) b 1 := by simp [tk, hk, hl]
    rw [e]
    have hE' : ∀ m a, m < n → Gt m a → ReadsT z N m a (tk m a) 0 E := fun m a hm ha => hE m a (by omega) ha
    exact pair_two hz hx hm hl hk (some_in (hE n a (by omega) ha) (some_all n hE' a ha)) (pair_in hz (hE n b (by omega) hb) (ih hE' b hb))
   ·rw [hk] at h1; exact absurd h1 (by simp [levP])

theorem row_read (hz : z.fin.1 = 0) : ∀ (ns : List Tr) (q : Tr) (l : List Tr) (us : List Tk), (∀ t ∈ q :: ns, NmOK t.name) → Ms (q.name :: ns.flatMap fun t => [[44], t.name]) us →
  ∃ vs : List Tr, vs.length = ns.length + 1 ∧ (∀ i (h : i < (q :: ns).length) (h' : i < vs.length), vs[i].kind = 23 ∧ vs[i].num = 0 ∧ vs[i].kids = [] ∧ vs[i].name = (q :: ns)[i].name) ∧
   ∀ n r, us.length ≤ n → (hd z r).text ≠ s_comma → rowB z n l (us ++ r) = .ok (l ++ vs, r) := by
 intro ns
 induction ns with
 | nil =>
  rintro q l us hq ⟨t, r1, rfl, h1, rfl⟩
  obtain ⟨n1, n2, n3⟩ := hq q (by simp)
  obtain ⟨hk, ht⟩ := mt_name h1 n1 n2 n3.1
  refine ⟨[nm 23 t.pos t.text []], rfl, ?_, ?_⟩
  ·intro i h h'
   have e : i = 0 := by simp at h; omega
   subst e
   exact ⟨rfl, rfl, rfl, ht⟩
  ·intro n r hn hs
   obtain ⟨n, rfl⟩ : ∃ q, n = q + 1 := ⟨n - 1, by simp at hn; omega⟩
   simp only [rowB, namedB, List.singleton_append]
   rw [kind_yes hk]
   simp only [bnd]
   rw [ite_no hz hs]
 | cons p ns ih =>
  rintro q l us hq ⟨t, r1, rfl, h1, h2⟩
  obtain ⟨n1, n2, n3⟩ := hq q (by simp)
  obtain ⟨hk, ht⟩ := mt_name h1 n1 n2 n3.1
  simp only [List.flatMap_cons, List.cons_append, List.nil_append] at h2
  obtain ⟨c, r2, rfl, h3, h4⟩ := h2
  have hc : c.text = s_comma := mt_key h3 (by decide)
  obtain ⟨vs, hv1, hv2, hv3⟩ := ih p (l ++ [nm 23 t.pos t.text []]) r2 (fun t ht => hq t (List.mem_cons_of_mem _ ht)) h4
  refine ⟨nm 23 t.pos t.text [] :: vs, by simp [hv1], ?_, ?_⟩
  ·intro i h h'
   cases i with
   | zero => exact ⟨rfl, rfl, rfl, ht⟩
   | succ i => simpa using hv2 i (by simpa using h) (by simpa using h')
  ·intro n r hn hs
   simp only [List.length_cons] at hn
   obtain ⟨n, rfl⟩ : ∃ q, n = q + 1 := ⟨n - 1, by omega⟩
   simp only [rowB, namedB, List.cons_append]
   rw [kind_yes hk]
   simp only [bnd]
   rw [ite_yes hc, hv3 n r (by omega) hs]
   simp

theorem eq_arrow {n p : Nat} {T a b U V : Tr} {ns vs : List Tr} (h : EqT n a U) (h' : EqT n b V) (hk : T.kind = 29) (hx : T.name = []) (hm : T.num = 0) (hl : T.kids = a :: b :: ns) (hn : vs.length = ns.length)
  (hv : ∀ i (h : i < ns.length) (h' : i < vs.length), EqT n ns[i] vs[i]) : EqT (n + 1) T (nd 29 p ([U, V] ++ vs)) := by
 have e2 : (nd 29 p ([U, V] ++ vs)).kids = U :: V :: vs := rfl
 refine ⟨hk, hx, hm, by rw [hl, e2]; simp [hn], fun i h1 h2 => ?_⟩
 simp only [hl, e2] at h1 h2 ⊢
 match i with
 | 0 => exact h
 | 1 => exact h'
 | i + 2 =>
  simp only [List.length_cons] at h1 h2
  simpa using hv i (by omega) (by omega)
theorem Gt.pos {n : Nat} {T : Tr} (h : Gt n T) : 1 ≤ n := by
 cases n with
 | zero => exact h.elim
 | succ n => omega
theorem typ_read (hz : z.fin.1 = 0) : ∀ (n : Nat) (T : Tr), Gt n T → ∀ k, n ≤ k → ReadsT z N n T (tk n T) 0 (typB z N k) := by
 intro n
 induction n using Nat.strongRecOn with
 | ind n ih =>
  intro T hT k hkn
  obtain ⟨n, rfl⟩ : ∃ m, n = m + 1 := ⟨n - 1, by have := hT.pos; omega⟩
  obtain ⟨k, rfl⟩ : ∃ m, k = m + 1 := ⟨k - 1, by omega⟩
  have hE : ∀ m a, m < n + 1 → Gt m a → ReadsT z N m a (tk m a) 0 (typB z N k) := fun m a hm ha => ih m hm a ha k (by omega)
  intro us hu hN
  by_cases h1 : 1 ≤ levP T.kind T.name
  ·obtain ⟨U, hU, hR⟩ := pair_all hz (n + 1) hE T hT h1 us hu hN
   refine ⟨U, hU, fun r hs => ?_⟩
   simp only [typB, typBodyB]
   rw [bnd_look hz, hR N r (by omega) (hs.up (by omega))]
   simp only [bnd]
   rw [ite_no hz (hs.2.2 (by omega)).1, ite_no hz (hs.2.2 (by omega)).2]
  ·obtain ⟨hx, hm, h⟩ := hT
   rcases h with ⟨hk, hl⟩ | ⟨hk, a, hl, ha⟩ | ⟨hk, a, b, hl, ha, hb⟩ | ⟨hk, a, b, ns, hl, ha, hb, hns⟩
   ·exact absurd (by rcases hk with h | h | h <;> rw [h] <;> simp [levP]) h1
   ·exact absurd (by rw [hk]; simp [levP]) h1
   ·exact absurd (by rw [hk]; simp [levP]) h1
   ·have e : tk (n + 1) T = inP (tk n) a 1 ++ arrTk (ns.map Tr.name) ++ tk n b := by simp [tk, hk, hl]
    rw [e] at hu
    obtain ⟨u, v, rfl, h2, h3⟩ := Ms.app hu
    obtain ⟨u1, w, rfl, h4, h5⟩ := Ms.app h2
    have hE' : ∀ m a, m < n → Gt m a → ReadsT z N m a (tk m a) 0 (typB z N k) := fun m a hm ha => hE m a (by omega) ha
    simp only [List.length_append] at hN
    obtain ⟨U, hU, hR⟩ := pair_in hz (hE n a (by omega) ha) (pair_all hz n hE' a ha) u1 h4 (by omega)
    obtain ⟨V, hV, hR2⟩ := hE n b (by omega) hb v h3 (by omega)
    cases ns with
    | nil =>
     simp only [List.map_nil, arrTk, if_true, List.nil_append] at h5
     obtain ⟨q, r2, rfl, h6, rfl⟩ := h5
     have hq : q.text = s_arrow := mt_key h6 (by decide)
     refine ⟨nd 29 U.pos [U, V], eq_arrow (vs := []) hU hV hk hx hm hl rfl (fun i h => by simp at h), fun r hs => ?_⟩
     have e2 : u1 ++ [q] ++ v ++ r = u1 ++ (q :: (v ++ r)) := by simp
     have hs1 : StT 1 (hd z (q :: (v ++ r))) := by
      show StT 1 q
      refine ⟨?_, fun _ => ?_, fun h => absurd h (by omega)⟩ <;> rw [hq] <;> decide
     rw [e2]
     simp only [typB, typBodyB]
     rw [bnd_look hz, hR N _ (by omega) hs1]
     simp only [bnd]
     rw [ite_no hz (by show q.text ≠ s_minus; rw [hq]; decide), ite_yes hq, hR2 r hs]
    | cons q0 ns =>
     have hh : arrTk ((q0 :: ns).map Tr.name) = [45] :: [123] :: ((q0.name :: ns.flatMap fun t => [[44], t.name]) ++ [[125], [45, 62]]) := by
      simp [arrTk, rowTk, List.flatMap_map]
     rw [hh] at h5
     obtain ⟨c1, w1, rfl, g1, c2, w2, rfl, g2, h5⟩ := h5
     obtain ⟨wr, wq, hw, g3, g4⟩ := Ms.app (xs := q0.name :: ns.flatMap fun t => [[44], t.name]) h5
     subst hw
     obtain ⟨c3, w3, rfl, g5, c4, w4, rfl, g6, rfl⟩ := g4
     have k1 : c1.text = s_minus := mt_key g1 (by decide)
     have k2 : c2.text = s_lb := mt_key g2 (by decide)
     have k3 : c3.text = s_rb := mt_key g5 (by decide)
     have k4 : c4.text = s_arrow := mt_key g6 (by decide)
     obtain ⟨vs, v1, v2, v3⟩ := row_read hz ns q0 [] wr (fun t ht => (hns t ht).2.2.2) g3
     have hnn : 1 ≤ n := ha.pos
     obtain ⟨n', rfl⟩ : ∃ m, n = m + 1 := ⟨n - 1, by omega⟩
     refine ⟨nd 29 U.pos ([U, V] ++ vs), eq_arrow hU hV hk hx hm hl (by rw [v1]; rfl) (fun i h h' => ?_), fun r hs => ?_⟩
     ·obtain ⟨x1, x2, x3, x4⟩ := v2 i h h'
      obtain ⟨y1, y2, y3, y4⟩ := hns (q0 :: ns)[i] (List.getElem_mem _)
      exact ⟨by rw [x1, y1], x4.symm, by rw [x2, y2], by rw [x3, y3], fun j hj => by rw [y3] at hj; simp at hj⟩
     ·simp only [List.length_append, List.length_cons, List.length_nil] at hN
      have e2 : u1 ++ (c1 :: c2 :: (wr ++ (c3 :: c4 :: []))) ++ v ++ r = u1 ++ (c1 :: c2 :: (wr ++ (c3 :: c4 :: (v ++ r)))) := by simp
      have hs1 : ∀ r, StT 1 (hd z (c1 :: r)) := fun r => by
       show StT 1 c1
       refine ⟨?_, fun _ => ?_, fun h => absurd h (by omega)⟩ <;> rw [k1] <;> decide
      rw [e2]
      simp only [typB, typBodyB]
      rw [bnd_look hz, hR N _ (by omega) (hs1 _)]
      simp only [bnd]
      rw [ite_yes k1, need_yes k2]
      simp only []
      rw [v3 N _ (by omega) (by show c3.text ≠ s_comma; rw [k3]; decide)]
      simp only []
      rw [need_yes k3]
      simp only []
      rw [need_yes k4]
      simp only []
      rw [hR2 r hs]
      simp
end Sy

namespace Sy
open Lx
variable {z : Env} {N : Nat}

def Nd0 (t : Tr) : Prop := t.name = [] ∧ t.num = 0
def NmT (t : Tr) : Prop := t.kind = 23 ∧ t.num = 0 ∧ t.kids = [] ∧ NmOK t.name
def Ge : Nat → Tr → Prop
 | 0, _ => False
 | n + 1, t =>
  (t.kind = 3 ∧ t.name = [] ∧ t.kids = [] ∧ -9223372036854775807 ≤ t.num ∧ t.num ≤ 9223372036854775807) ∨
  (t.kind = 4 ∧ t.name = [] ∧ t.kids = [] ∧ (t.num = 0 ∨ t.num = 1)) ∨
  ((t.kind = 5 ∨ t.kind = 15) ∧ Nd0 t ∧ t.kids = []) ∨
  (t.kind = 6 ∧ NmOK t.name ∧ t.num = 0 ∧ t.kids = []) ∨
  ((t.kind = 7 ∨ t.kind = 19) ∧ NmOK t.name ∧ t.num = 0 ∧ ∃ a, t.kids = [a] ∧ Ge n a) ∨
  ((t.kind = 13 ∨ t.kind = 14) ∧ Nd0 t ∧ ∃ a, t.kids = [a] ∧ Ge n a) ∨
  ((t.kind = 8 ∨ t.kind = 10 ∨ t.kind = 12 ∨ t.kind = 16) ∧ Nd0 t ∧ ∃ a b, t.kids = [a, b] ∧ Ge n a ∧ Ge n b) ∨
  (t.kind = 9 ∧ t.num = 0 ∧ NmOK t.name ∧ ∃ a b, t.kids = [a, b] ∧ Ge n a ∧ Ge n b) ∨
  (t.kind = 9 ∧ t.num = 1 ∧ NmOK t.name ∧ ∃ f a b, t.kids = [f, b] ∧ f.kind = 7 ∧ NmOK f.name ∧ f.num = 0 ∧ f.kids = [a] ∧ Ge n f ∧ Ge n a ∧ Ge n b) ∨
  (t.kind = 11 ∧ Nd0 t ∧ ∃ a b c, t.kids = [a, b, c] ∧ Ge n a ∧ Ge n b ∧ Ge n c) ∨
  (t.kind = 17 ∧ Nd0 t ∧ ∃ a b c d e, t.kids = [a, b, c, d, e] ∧ NmT c ∧ NmT d ∧ Ge n a ∧ Ge n b ∧ Ge n e) ∨
  (t.kind = 18 ∧ t.num = 0 ∧ (t.name = [43] ∨ t.name = [45] ∨ t.name = [42] ∨ t.name = [60] ∨ t.name = [61, 61]) ∧ ∃ a b, t.kids = [a, b] ∧ Ge n a ∧ Ge n b) ∨
  (t.kind = 20 ∧ t.name = [] ∧ (t.num = 0 ∨ t.num = 1) ∧ ∃ a r e cs, t.kids = a :: r :: cs ∧ r.kind = 21 ∧ NmOK r.name ∧ r.num = 0 ∧ r.kids = [e] ∧ Ge n a ∧ Ge n e ∧
   ∀ q ∈ cs, q.kind = 22 ∧ NmOK q.name ∧ q.num = 0 ∧ ∃ x y c, q.kids = [x, y, c] ∧ NmT x ∧ NmT y ∧ Ge n c)

def StE (l : Int) (t : Tk) : Prop :=
 (l ≤ 5 → beginsB t = false) ∧ (l ≤ 4 → t.text ≠ s_star) ∧ (l ≤ 3 → t.text ≠ s_plus ∧ t.text ≠ s_minus) ∧ (l ≤ 2 → t.text ≠ s_cons) ∧ (l ≤ 1 → t.text ≠ s_eqeq ∧ t.text ≠ s_lt) ∧ (l ≤ 0 → t.text ≠ s_semi)
theorem StE.up {l m : Int} {t : Tk} (h : StE l t) (hm : l ≤ m) : StE m t :=
 ⟨fun e => h.1 (by omega), fun e => h.2.1 (by omega), fun e => h.2.2.1 (by omega), fun e => h.2.2.2.1 (by omega), fun e => h.2.2.2.2.1 (by omega), fun e => h.2.2.2.2.2 (by omega)⟩

theorem apps_stop (hz : z.fin.1 = 0) {E : List Tk → R Tr} {n : Nat} {U : Tr} {r : List Tk} (hn : 0 < n) (h : beginsB (hd z r) = false) : appsB z N E n U r = .ok (U, r) := by
 obtain ⟨n, rfl⟩ : ∃ m, n = m + 1 := ⟨n - 1, by omega⟩
 simp only [appsB]
 rw [bnd_look hz, h]
 rfl
theorem apps_more {E : List Tk → R Tr} {n : Nat} {U V : Tr} {us r : List Tk} {t : Tk} {q : List Tk} (hn : 0 < n) (hu : us = t :: q) (h : beginsB t = true) (ha : atomB z N E (us ++ r) = .ok (V, r)) :
  appsB z N E n U (us ++ r) = appsB z N E (n - 1) (nd 8 U.pos [U, V]) r := by
 obtain ⟨n, rfl⟩ : ∃ m, n = m + 1 := ⟨n - 1, by omega⟩
 simp only [appsB]
 rw [ha]
 subst hu
 rw [show lookB z (t :: q ++ r) = .ok (t, t :: q ++ r) from rfl]
 simp only [bnd, h, if_true]
 rfl
theorem muls_stop (hz : z.fin.1 = 0) {E : List Tk → R Tr} {n : Nat} {U : Tr} {r : List Tk} (hn : 0 < n) (h : (hd z r).text ≠ s_star) : mulsB z N E n U r = .ok (U, r) := by
 obtain ⟨n, rfl⟩ : ∃ m, n = m + 1 := ⟨n - 1, by omega⟩
 simp only [mulsB]
 rw [ite_no hz h]
theorem muls_more {E : List Tk → R Tr} {n : Nat} {U V : Tr} {t : Tk} {us r : List Tk} (hn : 0 < n) (h : t.text = s_star) (ha : appB z N E (us ++ r) = .ok (V, r)) : mulsB z N E n U (t :: (us ++ r)) = mulsB z N E (n - 1) (op2 s_star U V) r := by
 obtain ⟨n, rfl⟩ : ∃ m, n = m + 1 := ⟨n - 1, by omega⟩
 simp only [mulsB]
 rw [ite_yes h, ha]
 rfl
theorem sums_stop (hz : z.fin.1 = 0) {E : List Tk → R Tr} {n : Nat} {U : Tr} {r : List Tk} (hn : 0 < n) (h : (hd z r).text ≠ s_plus) (h' : (hd z r).text ≠ s_minus) : sumsB z N E n U r = .ok (U, r) := by
 obtain ⟨n, rfl⟩ : ∃ m, n = m + 1 := ⟨n - 1, by omega⟩
 simp only [sumsB]
 rw [bnd_look hz, if_neg (by simp [h, h'])]
theorem sums_more {E : List Tk → R Tr} {n : Nat} {U V : Tr} {t : Tk} {us r : List Tk} (hn : 0 < n) (h : t.text = s_plus ∨ t.text = s_minus) (ha : mulB z N E (us ++ r) = .ok (V, r)) : sumsB z N E n U (t :: (us ++ r)) = sumsB z N E (n - 1) (op2 t.text U V) r := by
 obtain ⟨n, rfl⟩ : ∃ m, n = m + 1 := ⟨n - 1, by omega⟩
 simp only [sumsB]
 rw [show lookB z (t :: (us ++ r)) = .ok (t, t :: (us ++ r)) from rfl]
 have hb : (t.text == s_plus || t.text == s_minus) = true := by rcases h with h | h <;> simp [h]
 simp only [bnd, hb, if_true, List.tail_cons]
 rw [ha]
 rfl

def Rds (z : Env) (N n : Nat) (T : Tr) (xs : List (List UInt8)) (l : Int) (P : List Tk → R Tr) : Prop := ∀ us, Ms xs us → us.length < N → ∃ U, EqT n T U ∧ ∀ r, StE l (hd z r) → P (us ++ r) = .ok (U, r)
def RdC (z : Env) (N n : Nat) (T : Tr) (xs : List (List UInt8)) (l : Int) (P : List Tk → R Tr) (L : Nat → Tr → List Tk → R Tr) : Prop :=
 ∀ us, Ms xs us → us.length < N → ∃ m U, m < us.length ∧ EqT n T U ∧ ∀ r, StE l (hd z r) → P (us ++ r) = L (N - m) U r

/- From level to level. -/
theorem app_of_atom {n : Nat} {T : Tr} {xs : List (List UInt8)} {E : List Tk → R Tr} (h : Rds z N n T xs 6 (atomB z N E)) (hf : ∀ us, Ms xs us → ∃ t r, us = t :: r ∧ beginsB t = true ∧ t.text ≠ w_do ∧ t.text ≠ w_fst ∧ t.text ≠ w_snd) :
  RdC z N n T xs 6 (appB z N E) (appsB z N E) := by
 intro us hu hN
 obtain ⟨U, hU, hR⟩ := h us hu hN
 obtain ⟨t, q, rfl, h1, h2, h3, h4⟩ := hf us hu
 refine ⟨0, U, by simp, hU, fun r hs => ?_⟩
 unfold appB
 rw [show lookB z (t :: q ++ r) = .ok (t, t :: q ++ r) from rfl]
 have e1 : (t.text == w_do) = false := by simpa using h2
 have e2 : (t.text == w_fst) = false := by simpa using h3
 have e3 : (t.text == w_snd) = false := by simpa using h4
 simp only [bnd, e1, e2, e3, Bool.false_eq_true, if_false]
 rw [hR r hs]
 rfl
theorem app_stop (hz : z.fin.1 = 0) {n : Nat} {T : Tr} {xs : List (List UInt8)} {E : List Tk → R Tr} (h : RdC z N n T xs 6 (appB z N E) (appsB z N E)) : Rds z N n T xs 5 (appB z N E) := by
 intro us hu hN
 obtain ⟨m, U, hm, hU, hR⟩ := h us hu hN
 refine ⟨U, hU, fun r hs => ?_⟩
 rw [hR r (hs.up (by omega)), apps_stop hz (by omega) (hs.1 (by omega))]
theorem mul_of_app {n : Nat} {T : Tr} {xs : List (List UInt8)} {E : List Tk → R Tr} (hN0 : 0 < N) (h : Rds z N n T xs 5 (appB z N E)) (hne : xs ≠ []) : RdC z N n T xs 5 (mulB z N E) (mulsB z N E) := by
 intro us hu hN
 obtain ⟨U, hU, hR⟩ := h us hu hN
 refine ⟨0, U, ?_, hU, fun r hs => ?_⟩
 ·rw [hu.len]
  exact List.length_pos_iff.2 hne
 ·unfold mulB
  rw [hR r hs]
  rfl
theorem mul_stop (hz : z.fin.1 = 0) {n : Nat} {T : Tr} {xs : List (List UInt8)} {E : List Tk → R Tr} (h : RdC z N n T xs 5 (mulB z N E) (mulsB z N E)) : Rds z N n T xs 4 (mulB z N E) := by
 intro us hu hN
 obtain ⟨m, U, hm, hU, hR⟩ := h us hu hN
 refine ⟨U, hU, fun r hs => ?_⟩
 rw [hR r (hs.up (by omega)), muls_stop hz (by omega) (hs.2.1 (by omega))]
theorem sum_of_mul {n : Nat} {T : Tr} {xs : List (List UInt8)} {E : List Tk → R Tr} (h : Rds z N n T xs 4 (mulB z N E)) (hne : xs ≠ []) : RdC z N n T xs 4 (sumB z N E) (sumsB z N E) := by
 intro us hu hN
 obtain ⟨U, hU, hR⟩ := h us hu hN
 refine ⟨0, U, ?_, hU, fun r hs => ?_⟩
 ·rw [hu.len]
  exact List.length_pos_iff.2 hne
 ·unfold sumB
  rw [hR r hs]
  rfl
theorem sum_stop (hz : z.fin.1 = 0) {n : Nat} {T : Tr} {xs : List (List UInt8)} {E : List Tk → R Tr} (h : RdC z N n T xs 4 (sumB z N E) (sumsB z N E)) : Rds z N n T xs 3 (sumB z N E) := by
 intro us hu hN
 obtain ⟨m, U, hm, hU, hR⟩ := h us hu hN
 refine ⟨U, hU, fun r hs => ?_⟩
 rw [hR r (hs.up (by omega)), sums_stop hz (by omega) (hs.2.2.1 (by omega)).1 (hs.2.2.1 (by omega)).2]
end Sy

namespace Sy
open Lx
variable {z : Env} {N : Nat}

def ConsR (z : Env) (N n : Nat) (T : Tr) (xs : List (List UInt8)) (E : List Tk → R Tr) : Prop :=
 ∀ us, Ms xs us → us.length < N → ∃ U, EqT n T U ∧ ∀ p r, us.length ≤ p → StE 2 (hd z r) → consB z N E p (us ++ r) = .ok (U, r)
theorem cons_of_sum (hz : z.fin.1 = 0) {n : Nat} {T : Tr} {xs : List (List UInt8)} {E : List Tk → R Tr} (h : Rds z N n T xs 3 (sumB z N E)) (hne : xs ≠ []) : ConsR z N n T xs E := by
 intro us hu hN
 obtain ⟨U, hU, hR⟩ := h us hu hN
 have hl : 0 < us.length := by rw [hu.len]; exact List.length_pos_iff.2 hne
 refine ⟨U, hU, fun p r hp hs => ?_⟩
 obtain ⟨p, rfl⟩ : ∃ q, p = q + 1 := ⟨p - 1, by omega⟩
 simp only [consB]
 rw [hR r (hs.up (by omega))]
 simp only [bnd]
 rw [ite_no hz (hs.2.2.2.1 (by omega))]
theorem st_key {q : Tk} {x : List UInt8} (hq : q.text = x) (hk : q.kind ≠ 1 ∧ q.kind ≠ 2) (l : Int) (h : (x != s_tilde && x != w_true && x != w_false && x != s_lp && x != s_ls) = true) (h1 : l ≤ 4 → x ≠ s_star) (h2 : l ≤ 3 → x ≠ s_plus ∧ x ≠ s_minus) (h3 : l ≤ 2 → x ≠ s_cons) (h4 : l ≤ 1 → x ≠ s_eqeq ∧ x ≠ s_lt) (h5 : l ≤ 0 → x ≠ s_semi) (r : List Tk) :
  StE l (hd z (q :: r)) := by
 show StE l q
 subst hq
 refine ⟨fun _ => ?_, h1, h2, h3, h4, h5⟩
 simp only [Bool.and_eq_true, bne_iff_ne, ne_eq] at h
 simp [beginsB, hk, h]
theorem mt_kind {x : List UInt8} {t : Tk} (h : Mt x t) (hd : (x.head?.map isDig).getD false = false) (hw : (x.head?.map isLet).getD false = false ∨ isWd x = true) : t.kind ≠ 1 ∧ t.kind ≠ 2 := by
 obtain ⟨pos, rfl⟩ := h
 unfold tokOf
 rw [if_neg (by simp [hd])]
 split
 ·rename_i hl
  rcases hw with hw | hw
  ·simp [hw] at hl
  ·simp [hw]
 ·simp
theorem cons_two (hz : z.fin.1 = 0) {n : Nat} {T a b : Tr} {xs ys : List (List UInt8)} {E : List Tk → R Tr} (hx : Nd0 T) (hl : T.kids = [a, b]) (hk : T.kind = 16) (h : Rds z N n a xs 3 (sumB z N E)) (h' : ConsR z N n b ys E) :
  ConsR z N (n + 1) T (xs ++ [[58, 58]] ++ ys) E := by
 intro us hu hN
 obtain ⟨u, v, rfl, h1, h2⟩ := Ms.app hu
 obtain ⟨u1, w, rfl, h3, h4⟩ := Ms.app h1
 obtain ⟨q, r2, rfl, h5, rfl⟩ := h4
 have hq : q.text = s_cons := mt_key h5 (by decide)
 have hqk := mt_kind h5 (by decide) (.inl (by decide))
 simp only [List.length_append, List.length_singleton] at hN
 obtain ⟨U, hU, hR⟩ := h u1 h3 (by omega)
 obtain ⟨V, hV, hR2⟩ := h' v h2 (by omega)
 refine ⟨nd 16 U.pos [U, V], eq_two hU hV hk hx.1 hx.2 hl, fun p r hp hs => ?_⟩
 simp only [List.length_append, List.length_singleton] at hp
 obtain ⟨p, rfl⟩ : ∃ q, p = q + 1 := ⟨p - 1, by omega⟩
 have e : u1 ++ [q] ++ v ++ r = u1 ++ (q :: (v ++ r)) := by simp
 rw [e]
 simp only [consB]
 rw [hR _ (st_key hq hqk 3 (by decide) (by decide) (by decide) (by decide) (by decide) (by decide) _)]
 simp only [bnd]
 rw [ite_yes hq, hR2 p r (by omega) hs]
theorem comp_of_cons (hz : z.fin.1 = 0) {n : Nat} {T : Tr} {xs : List (List UInt8)} {E : List Tk → R Tr} (h : ConsR z N n T xs E) : Rds z N n T xs 1 (compB z N E) := by
 intro us hu hN
 obtain ⟨U, hU, hR⟩ := h us hu hN
 refine ⟨U, hU, fun r hs => ?_⟩
 unfold compB
 rw [hR N r (by omega) (hs.up (by omega))]
 simp only [bnd]
 rw [look_hd hz]
 have h1 := (hs.2.2.2.2.1 (by omega)).1
 have h2 := (hs.2.2.2.2.1 (by omega)).2
 simp [h1, h2]
theorem eq_op {n : Nat} {T a b U V : Tr} {x : List UInt8} (h : EqT n a U) (h' : EqT n b V) (hk : T.kind = 18) (hx : T.name = x) (hm : T.num = 0) (hl : T.kids = [a, b]) : EqT (n + 1) T (op2 x U V) := by
 refine ⟨hk, hx, hm, by rw [hl]; rfl, fun i h1 h2 => ?_⟩
 simp only [hl, List.length_cons, List.length_nil] at h1
 obtain rfl | rfl : i = 0 ∨ i = 1 := by omega
 ·simp only [hl]; exact h
 ·simp only [hl]; exact h'
theorem comp_two (hz : z.fin.1 = 0) {n : Nat} {T a b : Tr} {x : List UInt8} {xs ys : List (List UInt8)} {E : List Tk → R Tr} (hx : T.name = x) (hm : T.num = 0) (hl : T.kids = [a, b]) (hk : T.kind = 18) (hc : x = s_eqeq ∨ x = s_lt) (h : ConsR z N n a xs E) (h' : ConsR z N n b ys E) :
  Rds z N (n + 1) T (xs ++ [x] ++ ys) 1 (compB z N E) := by
 intro us hu hN
 obtain ⟨u, v, rfl, h1, h2⟩ := Ms.app hu
 obtain ⟨u1, w, rfl, h3, h4⟩ := Ms.app h1
 obtain ⟨q, r2, rfl, h5, rfl⟩ := h4
 have hq : q.text = x := mt_key h5 (by rcases hc with rfl | rfl <;> decide)
 have hqk := mt_kind h5 (by rcases hc with rfl | rfl <;> decide) (.inl (by rcases hc with rfl | rfl <;> decide))
 simp only [List.length_append, List.length_singleton] at hN
 obtain ⟨U, hU, hR⟩ := h u1 h3 (by omega)
 obtain ⟨V, hV, hR2⟩ := h' v h2 (by omega)
 refine ⟨op2 x U V, eq_op hU hV hk hx hm hl, fun r hs => ?_⟩
 have e : u1 ++ [q] ++ v ++ r = u1 ++ (q :: (v ++ r)) := by simp
 have hs2 : StE 2 (hd z (q :: (v ++ r))) := by
  rcases hc with rfl | rfl
  ·exact st_key hq hqk 2 (by decide) (by decide) (by decide) (by decide) (by decide) (by decide) _
  ·exact st_key hq hqk 2 (by decide) (by decide) (by decide) (by decide) (by decide) (by decide) _
 rw [e]
 unfold compB
 rw [hR N _ (by omega) hs2]
 simp only [bnd]
 rw [show lookB z (q :: (v ++ r)) = .ok (q, q :: (v ++ r)) from rfl]
 have hb : (q.text == s_eqeq || q.text == s_lt) = true := by rw [hq]; rcases hc with h | h <;> simp [h]
 simp only [hb, if_true, List.tail_cons]
 rw [hR2 N r (by omega) (hs.up (by omega)), hq]
theorem seq_of_comp (hz : z.fin.1 = 0) {n : Nat} {T : Tr} {xs : List (List UInt8)} {E : List Tk → R Tr} (h : Rds z N n T xs 1 (compB z N E)) : Rds z N n T xs 0 (seqB z N E) := by
 intro us hu hN
 obtain ⟨U, hU, hR⟩ := h us hu hN
 refine ⟨U, hU, fun r hs => ?_⟩
 unfold seqB
 rw [hR r (hs.up (by omega))]
 simp only [bnd]
 rw [ite_no hz (hs.2.2.2.2.2 (by omega))]
theorem seq_two {n : Nat} {T a b : Tr} {xs ys : List (List UInt8)} {E : List Tk → R Tr} (hx : Nd0 T) (hl : T.kids = [a, b]) (hk : T.kind = 10) (h : Rds z N n a xs 1 (compB z N E)) (h' : Rds z N n b ys 0 E) :
  Rds z N (n + 1) T (xs ++ [[59]] ++ ys) 0 (seqB z N E) := by
 intro us hu hN
 obtain ⟨u, v, rfl, h1, h2⟩ := Ms.app hu
 obtain ⟨u1, w, rfl, h3, h4⟩ := Ms.app h1
 obtain ⟨q, r2, rfl, h5, rfl⟩ := h4
 have hq : q.text = s_semi := mt_key h5 (by decide)
 have hqk := mt_kind h5 (by decide) (.inl (by decide))
 simp only [List.length_append, List.length_singleton] at hN
 obtain ⟨U, hU, hR⟩ := h u1 h3 (by omega)
 obtain ⟨V, hV, hR2⟩ := h' v h2 (by omega)
 refine ⟨nd 10 U.pos [U, V], eq_two hU hV hk hx.1 hx.2 hl, fun r hs => ?_⟩
 have e : u1 ++ [q] ++ v ++ r = u1 ++ (q :: (v ++ r)) := by simp
 rw [e]
 unfold seqB
 rw [hR _ (st_key hq hqk 1 (by decide) (by decide) (by decide) (by decide) (by decide) (by decide) _)]
 simp only [bnd]
 rw [ite_yes hq, hR2 r hs]
theorem any_of_seq {n : Nat} {T : Tr} {xs : List (List UInt8)} {E : List Tk → R Tr} (h : Rds z N n T xs 0 (seqB z N E))
  (hf : ∀ us, Ms xs us → ∃ t r, us = t :: r ∧ t.text ≠ w_let ∧ t.text ≠ w_fn ∧ t.text ≠ w_if ∧ t.text ≠ w_case ∧ t.text ≠ w_handle ∧ t.text ≠ w_shallow) : Rds z N n T xs 0 (anyB z N E) := by
 intro us hu hN
 obtain ⟨U, hU, hR⟩ := h us hu hN
 obtain ⟨t, q, rfl, h1, h2, h3, h4, h5, h6⟩ := hf us hu
 refine ⟨U, hU, fun r hs => ?_⟩
 unfold anyB
 rw [show lookB z (t :: q ++ r) = .ok (t, t :: q ++ r) from rfl]
 have e1 : (t.text == w_let) = false := by simpa using h1
 have e2 : (t.text == w_fn) = false := by simpa using h2
 have e3 : (t.text == w_if) = false := by simpa using h3
 have e4 : (t.text == w_case) = false := by simpa using h4
 have e5 : (t.text == w_handle) = false := by simpa using h5
 have e6 : (t.text == w_shallow) = false := by simpa using h6
 simp only [bnd, e1, e2, e3, e4, e5, e6, Bool.false_eq_true, if_false, Bool.or_false]
 exact hR r hs
end Sy

namespace Sy
open Lx
variable {z : Env} {N : Nat}

theorem app_two {n : Nat} {T a b : Tr} {xs ys : List (List UInt8)} {E : List Tk → R Tr} (hx : Nd0 T) (hl : T.kids = [a, b]) (hk : T.kind = 8) (h : RdC z N n a xs 6 (appB z N E) (appsB z N E)) (h' : Rds z N n b ys 6 (atomB z N E))
  (hf : ∀ us, Ms ys us → ∃ t r, us = t :: r ∧ beginsB t = true) : RdC z N (n + 1) T (xs ++ ys) 6 (appB z N E) (appsB z N E) := by
 intro us hu hN
 obtain ⟨u, v, rfl, h1, h2⟩ := Ms.app hu
 simp only [List.length_append] at hN
 obtain ⟨m, U, hm, hU, hR⟩ := h u h1 (by omega)
 obtain ⟨V, hV, hR2⟩ := h' v h2 (by omega)
 obtain ⟨t, q, e, hb⟩ := hf v h2
 have hvl : 0 < v.length := by rw [e]; simp
 refine ⟨m + 1, nd 8 U.pos [U, V], by simp only [List.length_append]; omega, eq_two hU hV hk hx.1 hx.2 hl, fun r hs => ?_⟩
 have h6 : ∀ t : Tk, StE 6 t := fun t => ⟨fun h => absurd h (by omega), fun h => absurd h (by omega), fun h => absurd h (by omega), fun h => absurd h (by omega), fun h => absurd h (by omega), fun h => absurd h (by omega)⟩
 rw [List.append_assoc, hR (v ++ r) (h6 _), apps_more (by omega) e hb (hR2 r hs)]
 rfl
theorem mul_two {n : Nat} {T a b : Tr} {xs ys : List (List UInt8)} {E : List Tk → R Tr} (hx : T.name = [42]) (hm : T.num = 0) (hl : T.kids = [a, b]) (hk : T.kind = 18) (h : RdC z N n a xs 5 (mulB z N E) (mulsB z N E)) (h' : Rds z N n b ys 5 (appB z N E)) :
  RdC z N (n + 1) T (xs ++ [[42]] ++ ys) 5 (mulB z N E) (mulsB z N E) := by
 intro us hu hN
 obtain ⟨u, v, rfl, h1, h2⟩ := Ms.app hu
 obtain ⟨u1, w, rfl, h3, h4⟩ := Ms.app h1
 obtain ⟨q, r2, rfl, h5, rfl⟩ := h4
 have hq : q.text = s_star := mt_key h5 (by decide)
 have hqk := mt_kind h5 (by decide) (.inl (by decide))
 simp only [List.length_append, List.length_singleton] at hN
 obtain ⟨m, U, hmm, hU, hR⟩ := h u1 h3 (by omega)
 obtain ⟨V, hV, hR2⟩ := h' v h2 (by omega)
 refine ⟨m + 1, op2 s_star U V, by simp only [List.length_append, List.length_singleton]; omega, eq_op hU hV hk hx hm hl, fun r hs => ?_⟩
 have e : u1 ++ [q] ++ v ++ r = u1 ++ (q :: (v ++ r)) := by simp
 rw [e, hR _ (st_key hq hqk 5 (by decide) (by decide) (by decide) (by decide) (by decide) (by decide) _), muls_more (by omega) hq (hR2 r hs)]
 rfl
theorem sum_two {n : Nat} {T a b : Tr} {x : List UInt8} {xs ys : List (List UInt8)} {E : List Tk → R Tr} (hc : x = s_plus ∨ x = s_minus) (hx : T.name = x) (hm : T.num = 0) (hl : T.kids = [a, b]) (hk : T.kind = 18) (h : RdC z N n a xs 4 (sumB z N E) (sumsB z N E)) (h' : Rds z N n b ys 4 (mulB z N E)) :
  RdC z N (n + 1) T (xs ++ [x] ++ ys) 4 (sumB z N E) (sumsB z N E) := by
 intro us hu hN
 obtain ⟨u, v, rfl, h1, h2⟩ := Ms.app hu
 obtain ⟨u1, w, rfl, h3, h4⟩ := Ms.app h1
 obtain ⟨q, r2, rfl, h5, rfl⟩ := h4
 have hq : q.text = x := mt_key h5 (by rcases hc with rfl | rfl <;> decide)
 have hqk := mt_kind h5 (by rcases hc with rfl | rfl <;> decide) (.inl (by rcases hc with rfl | rfl <;> decide))
 simp only [List.length_append, List.length_singleton] at hN
 obtain ⟨m, U, hmm, hU, hR⟩ := h u1 h3 (by omega)
 obtain ⟨V, hV, hR2⟩ := h' v h2 (by omega)
 refine ⟨m + 1, op2 x U V, by simp only [List.length_append, List.length_singleton]; omega, eq_op hU hV hk hx hm hl, fun r hs => ?_⟩
 have e : u1 ++ [q] ++ v ++ r = u1 ++ (q :: (v ++ r)) := by simp
 have hs4 : StE 4 (hd z (q :: (v ++ r))) := by
  rcases hc with rfl | rfl
  ·exact st_key hq hqk 4 (by decide) (by decide) (by decide) (by decide) (by decide) (by decide) _
  ·exact st_key hq hqk 4 (by decide) (by decide) (by decide) (by decide) (by decide) (by decide) _
 rw [e, hR _ hs4, sums_more (by omega) (by rw [hq]; exact hc) (hR2 r hs), hq]
 rfl

theorem atom_paren (hz : z.fin.1 = 0) {n : Nat} {T : Tr} {xs : List (List UInt8)} {E : List Tk → R Tr} (hE : Rds z N n T xs 0 E) (hf : ∀ us, Ms xs us → ∃ t r, us = t :: r ∧ t.text ≠ s_rp) : Rds z N n T ([40] :: xs ++ [[41]]) 6 (atomB z N E) := by
 rintro us ⟨t, r1, rfl, h1, h2⟩ hN
 obtain ⟨u, v, rfl, h3, h4⟩ := Ms.app h2
 obtain ⟨q, r2, rfl, h5, rfl⟩ := h4
 have ht : t.text = s_lp := mt_key h1 (by decide)
 have htk := mt_kind h1 (by decide) (.inl (by decide))
 have hq : q.text = s_rp := mt_key h5 (by decide)
 have hqk := mt_kind h5 (by decide) (.inl (by decide))
 obtain ⟨U, hU, hR⟩ := hE u h3 (by simp at hN; omega)
 obtain ⟨a, b, hab, hane⟩ := hf u h3
 refine ⟨U, hU, fun r hs => ?_⟩
 have e : t :: (u ++ [q]) ++ r = t :: (u ++ (q :: r)) := by simp
 have hst : StE 0 (hd z (q :: r)) := st_key hq hqk 0 (by decide) (by decide) (by decide) (by decide) (by decide) (by decide) _
 rw [e]
 unfold atomB
 rw [show lookB z (t :: (u ++ (q :: r))) = .ok (t, t :: (u ++ (q :: r))) from rfl]
 have k1 : (t.kind == 1) = false := by simpa using htk.1
 have k2 : (t.kind == 2) = false := by simpa using htk.2
 have k3 : (s_lp == s_tilde) = false := by decide
 have k4 : (s_lp == w_true) = false := by decide
 have k5 : (s_lp == w_false) = false := by decide
 simp only [bnd, k1, k2, ht, k3, k4, k5, beq_self_eq_true, if_true, Bool.false_eq_true, if_false, List.tail_cons]
 unfold roundB
 rw [ite_no hz (by rw [hab]; exact hane), hR (q :: r) hst]
 simp only [bnd]
 rw [ite_no hz (by show q.text ≠ s_comma; rw [hq]; decide), need_yes hq]
end Sy

namespace Sy
open Lx
variable {z : Env} {N : Nat}

theorem eq_leaf {n : Nat} {T U : Tr} (h1 : T.kind = U.kind) (h2 : T.name = U.name) (h3 : T.num = U.num) (h4 : T.kids = []) (h5 : U.kids = []) : EqT (n + 1) T U :=
 ⟨h1, h2, h3, by rw [h4, h5], fun i h => by simp [h4] at h⟩
theorem atom_name {n : Nat} {T : Tr} {E : List Tk → R Tr} (hk : T.kind = 6) (hx : NmOK T.name) (hm : T.num = 0) (hl : T.kids = []) : Rds z N (n + 1) T [T.name] 6 (atomB z N E) := by
 rintro us ⟨t, r1, rfl, h1, rfl⟩ hN
 obtain ⟨k, e⟩ := mt_name h1 hx.1 hx.2.1 hx.2.2.1
 refine ⟨nm 6 t.pos t.text [], eq_leaf hk e.symm hm hl rfl, fun r _ => ?_⟩
 unfold atomB
 rw [show lookB z ([t] ++ r) = .ok (t, t :: r) from rfl]
 simp only [bnd, k]
 rfl
theorem atom_key {E : List Tk → R Tr} {t : Tk} {x : List UInt8} (ht : t.text = x) (hk : t.kind ≠ 1 ∧ t.kind ≠ 2) (r : List Tk) : atomB z N E (t :: r) =
  if x == s_tilde then bnd (kindB z 1 r) fun u ts => .ok (.mk 3 t.pos [] (-u.num) [], ts)
  else if x == w_true then .ok (.mk 4 t.pos [] 1 [], r)
  else if x == w_false then .ok (nd 4 t.pos [], r)
  else if x == s_lp then roundB z E t.pos r
  else if x == s_ls then squareB z N E t.pos r
  else .error (4, t.pos) := by
 unfold atomB
 rw [show lookB z (t :: r) = .ok (t, t :: r) from rfl]
 have k1 : (t.kind == 1) = false := by simpa using hk.1
 have k2 : (t.kind == 2) = false := by simpa using hk.2
 simp only [bnd, k1, k2, ht, Bool.false_eq_true, if_false, List.tail_cons]
theorem atom_bool {n : Nat} {T : Tr} {E : List Tk → R Tr} (hk : T.kind = 4) (hx : T.name = []) (hm : T.num = 0 ∨ T.num = 1) (hl : T.kids = []) : Rds z N (n + 1) T [if T.num = 1 then [116, 114, 117, 101] else [102, 97, 108, 115, 101]] 6 (atomB z N E) := by
 rintro us ⟨t, r1, rfl, h1, rfl⟩ hN
 rcases hm with hm | hm
 ·rw [hm, if_neg (by omega)] at h1
  have e : t.text = w_false := mt_key h1 (by decide)
  refine ⟨nd 4 t.pos [], eq_leaf hk hx hm hl rfl, fun r _ => ?_⟩
  rw [List.singleton_append, atom_key e (mt_kind h1 (by decide) (.inr (by decide)))]
  rfl
 ·rw [hm, if_pos rfl] at h1
  have e : t.text = w_true := mt_key h1 (by decide)
  refine ⟨.mk 4 t.pos [] 1 [], eq_leaf hk hx hm hl rfl, fun r _ => ?_⟩
  rw [List.singleton_append, atom_key e (mt_kind h1 (by decide) (.inr (by decide)))]
  rfl
theorem atom_unit {n : Nat} {T : Tr} {E : List Tk → R Tr} (hk : T.kind = 5) (hx : Nd0 T) (hl : T.kids = []) : Rds z N (n + 1) T [[40], [41]] 6 (atomB z N E) := by
 rintro us ⟨t, r1, rfl, h1, q, r2, rfl, h2, rfl⟩ hN
 have e : t.text = s_lp := mt_key h1 (by decide)
 have e2 : q.text = s_rp := mt_key h2 (by decide)
 refine ⟨nd 5 t.pos [], eq_leaf hk hx.1 hx.2 hl rfl, fun r _ => ?_⟩
 show atomB z N E (t :: (q :: r)) = _
 rw [atom_key e (mt_kind h1 (by decide) (.inl (by decide)))]
 show roundB z E t.pos (q :: r) = _
 unfold roundB
 rw [ite_yes e2]
theorem atom_nil {n : Nat} {T : Tr} {E : List Tk → R Tr} (hk : T.kind = 15) (hx : Nd0 T) (hl : T.kids = []) : Rds z N (n + 1) T [[91], [93]] 6 (atomB z N E) := by
 rintro us ⟨t, r1, rfl, h1, q, r2, rfl, h2, rfl⟩ hN
 have e : t.text = s_ls := mt_key h1 (by decide)
 have e2 : q.text = s_rs := mt_key h2 (by decide)
 refine ⟨nd 15 t.pos [], eq_leaf hk hx.1 hx.2 hl rfl, fun r _ => ?_⟩
 show atomB z N E (t :: (q :: r)) = _
 rw [atom_key e (mt_kind h1 (by decide) (.inl (by decide)))]
 show squareB z N E t.pos (q :: r) = _
 unfold squareB
 rw [ite_yes e2]
theorem atom_pair (hz : z.fin.1 = 0) {n : Nat} {T a b : Tr} {xs ys : List (List UInt8)} {E : List Tk → R Tr} (hk : T.kind = 12) (hx : Nd0 T) (hl : T.kids = [a, b]) (ha : Rds z N n a xs 0 E) (hb : Rds z N n b ys 0 E)
  (hf : ∀ us, Ms xs us → ∃ t r, us = t :: r ∧ t.text ≠ s_rp) : Rds z N (n + 1) T (([40] :: xs) ++ ([44] :: ys) ++ [[41]]) 6 (atomB z N E) := by
 intro us hu hN
 obtain ⟨u, v, rfl, h1, h2⟩ := Ms.app hu
 obtain ⟨u1, u2, rfl, h3, h4⟩ := Ms.app h1
 obtain ⟨t, w1, rfl, h5, h6⟩ := h3
 obtain ⟨c, w2, rfl, h7, h8⟩ := h4
 obtain ⟨q, w3, rfl, h9, rfl⟩ := h2
 have e1 : t.text = s_lp := mt_key h5 (by decide)
 have e2 : c.text = s_comma := mt_key h7 (by decide)
 have e3 : q.text = s_rp := mt_key h9 (by decide)
 have hck := mt_kind h7 (by decide) (.inl (by decide))
 have hqk := mt_kind h9 (by decide) (.inl (by decide))
 simp only [List.length_append, List.length_cons, List.length_nil] at hN
 obtain ⟨U, hU, hR⟩ := ha w1 h6 (by omega)
 obtain ⟨V, hV, hR2⟩ := hb w2 h8 (by omega)
 obtain ⟨a1, a2, hab, hane⟩ := hf w1 h6
 refine ⟨nd 12 t.pos [U, V], eq_two hU hV hk hx.1 hx.2 hl, fun r _ => ?_⟩
 have e : t :: w1 ++ c :: w2 ++ [q] ++ r = t :: (w1 ++ (c :: (w2 ++ (q :: r)))) := by simp
 rw [e, atom_key e1 (mt_kind h5 (by decide) (.inl (by decide)))]
 show roundB z E t.pos (w1 ++ (c :: (w2 ++ (q :: r)))) = _
 unfold roundB
 rw [ite_no hz (by rw [hab]; exact hane), hR _ (st_key e2 hck 0 (by decide) (by decide) (by decide) (by decide) (by decide) (by decide) _)]
 simp only [bnd]
 rw [ite_yes e2, hR2 _ (st_key e3 hqk 0 (by decide) (by decide) (by decide) (by decide) (by decide) (by decide) _)]
 simp only []
 rw [need_yes e3]
theorem app_do {n : Nat} {T a : Tr} {xs : List (List UInt8)} {E : List Tk → R Tr} (hk : T.kind = 19) (hx : NmOK T.name) (hm : T.num = 0) (hl : T.kids = [a]) (ha : Rds z N n a xs 6 (atomB z N E)) : Rds z N (n + 1) T ([[100, 111], T.name] ++ xs) 5 (appB z N E) := by
 intro us hu hN
 obtain ⟨t, r1, rfl, h1, q, r2, rfl, h2, h3⟩ := hu
 have e1 : t.text = w_do := mt_key h1 (by decide)
 obtain ⟨k, e⟩ := mt_name h2 hx.1 hx.2.1 hx.2.2.1
 simp only [List.length_cons] at hN
 obtain ⟨U, hU, hR⟩ := ha r2 h3 (by omega)
 refine ⟨nm 19 t.pos q.text [U], ⟨hk, e.symm, hm, by rw [hl]; rfl, fun i h1 h2 => ?_⟩, fun r hs => ?_⟩
 ·have ei : i = 0 := by simp only [hl, List.length_singleton] at h1; omega
  subst ei
  simp only [hl]
  exact hU
 ·unfold appB
  rw [show lookB z (t :: q :: r2 ++ r) = .ok (t, t :: q :: (r2 ++ r)) from rfl]
  simp only [bnd, e1, beq_self_eq_true, if_true]
  rw [show (t :: q :: r2 ++ r).tail = q :: (r2 ++ r) from rfl, kind_yes k]
  simp only []
  rw [hR r (hs.up (by omega))]
theorem app_fst {n : Nat} {T a : Tr} {xs : List (List UInt8)} {E : List Tk → R Tr} (hk : T.kind = 13) (hx : Nd0 T) (hl : T.kids = [a]) (ha : Rds z N n a xs 6 (atomB z N E)) : Rds z N (n + 1) T ([[102, 115, 116]] ++ xs) 5 (appB z N E) := by
 intro us hu hN
 obtain ⟨t, r1, rfl, h1, h3⟩ := hu
 have e1 : t.text = w_fst := mt_key h1 (by decide)
 simp only [List.length_cons] at hN
 obtain ⟨U, hU, hR⟩ := ha r1 h3 (by omega)
 refine ⟨nd 13 t.pos [U], eq_one hU hk hx.1 hx.2 hl, fun r hs => ?_⟩
 unfold appB
 rw [show lookB z (t :: r1 ++ r) = .ok (t, t :: (r1 ++ r)) from rfl]
 have k1 : (w_fst == w_do) = false := by decide
 simp only [bnd, e1, k1, beq_self_eq_true, if_true, Bool.false_eq_true, if_false]
 rw [show (t :: r1 ++ r).tail = r1 ++ r from rfl, hR r (hs.up (by omega))]
theorem app_snd {n : Nat} {T a : Tr} {xs : List (List UInt8)} {E : List Tk → R Tr} (hk : T.kind = 14) (hx : Nd0 T) (hl : T.kids = [a]) (ha : Rds z N n a xs 6 (atomB z N E)) : Rds z N (n + 1) T ([[115, 110, 100]] ++ xs) 5 (appB z N E) := by
 intro us hu hN
 obtain ⟨t, r1, rfl, h1, h3⟩ := hu
 have e1 : t.text = w_snd := mt_key h1 (by decide)
 simp only [List.length_cons] at hN
 obtain ⟨U, hU, hR⟩ := ha r1 h3 (by omega)
 refine ⟨nd 14 t.pos [U], eq_one hU hk hx.1 hx.2 hl, fun r hs => ?_⟩
 unfold appB
 rw [show lookB z (t :: r1 ++ r) = .ok (t, t :: (r1 ++ r)) from rfl]
 have k1 : (w_snd == w_do) = false := by decide
 have k2 : (w_snd == w_fst) = false := by decide
 simp only [bnd, e1, k1, k2, beq_self_eq_true, if_true, Bool.false_eq_true, if_false]
 rw [show (t :: r1 ++ r).tail = r1 ++ r from rfl, hR r (hs.up (by omega))]
end Sy

namespace Sy
open Lx
variable {z : Env} {N : Nat}

theorem names_stop (hz : z.fin.1 = 0) {n : Nat} {l : List Tk} {r : List Tk} (h : (hd z r).kind ≠ 2) (hn : 0 < n) {least : Nat} (hl : least ≤ l.length) : namesB z least n l r = .ok (l, r) := by
 obtain ⟨n, rfl⟩ : ∃ m, n = m + 1 := ⟨n - 1, by omega⟩
 simp only [namesB]
 rw [if_neg (by omega), bnd_look hz]
 have e : ((hd z r).kind == 2) = false := by simpa using h
 rw [e]
 rfl
theorem names_one (hz : z.fin.1 = 0) {q : Tk} {r : List Tk} (hq : q.kind = 2) (h : (hd z r).kind ≠ 2) (hN : 2 ≤ N) {least : Nat} (hl : least ≤ 1) : namesB z least N [] (q :: r) = .ok ([q], r) := by
 obtain ⟨M, rfl⟩ : ∃ m, N = m + 1 := ⟨N - 1, by omega⟩
 simp only [namesB]
 have e : namesB z least M ([] ++ [q]) r = .ok ([q], r) := names_stop hz h (by omega) (by simpa using hl)
 by_cases hc : ([] : List Tk).length < least
 ·rw [if_pos hc, kind_yes hq]
  simp only [bnd]
  exact e
 ·rw [if_neg hc, show lookB z (q :: r) = .ok (q, q :: r) from rfl]
  have e2 : (q.kind == 2) = true := by simpa using hq
  simp only [bnd, e2, if_true]
  rw [kind_yes hq]
  exact e
theorem any_word {E : List Tk → R Tr} {t : Tk} (r : List Tk) : anyB z N E (t :: r) =
  if t.text == w_let then letB z N E (t :: r) else if t.text == w_fn then fnB z N E (t :: r) else if t.text == w_if then ifB z E (t :: r) else if t.text == w_case then casesB z E (t :: r)
  else if t.text == w_handle || t.text == w_shallow then handleB z N E (t :: r) else seqB z N E (t :: r) := by
 unfold anyB
 rw [show lookB z (t :: r) = .ok (t, t :: r) from rfl]
 rfl
theorem take_yes {t : Tk} {r : List Tk} : takeB z (t :: r) = .ok (t, r) := rfl

theorem any_fn (hz : z.fin.1 = 0) {n : Nat} {T a : Tr} {xs : List (List UInt8)} {E : List Tk → R Tr} (hk : T.kind = 7) (hx : NmOK T.name) (hm : T.num = 0) (hl : T.kids = [a]) (ha : Rds z N n a xs 0 E) :
  Rds z N (n + 1) T ([[102, 110], T.name] ++ ([61, 62] :: xs)) 0 (anyB z N E) := by
 intro us hu hN
 obtain ⟨t, r1, rfl, h1, q, r2, rfl, h2, c, r3, rfl, h3, h4⟩ := hu
 have e1 : t.text = w_fn := mt_key h1 (by decide)
 obtain ⟨k, e⟩ := mt_name h2 hx.1 hx.2.1 hx.2.2.1
 have e3 : c.text = s_to := mt_key h3 (by decide)
 have hck := mt_kind h3 (by decide) (.inl (by decide))
 simp only [List.length_cons] at hN
 obtain ⟨U, hU, hR⟩ := ha r3 h4 (by omega)
 refine ⟨(fns [q] U).at t.pos, ⟨hk, e.symm, hm, by rw [hl]; rfl, fun i h1 h2 => ?_⟩, fun r hs => ?_⟩
 ·have ei : i = 0 := by simp only [hl, List.length_singleton] at h1; omega
  subst ei
  simp only [hl]
  exact hU
 ·show anyB z N E (t :: (q :: c :: (r3 ++ r))) = _
  rw [any_word, e1]
  show fnB z N E (t :: (q :: c :: (r3 ++ r))) = _
  unfold fnB
  rw [take_yes]
  simp only [bnd]
  rw [names_one (N := N) hz k (r := c :: (r3 ++ r)) hck.2 (by omega) (Nat.le_refl 1)]
  simp only []
  rw [need_yes e3]
  simp only []
  rw [hR r hs]
theorem any_if {n : Nat} {T a b c : Tr} {xs ys zs : List (List UInt8)} {E : List Tk → R Tr} (hk : T.kind = 11) (hx : Nd0 T) (hl : T.kids = [a, b, c]) (ha : Rds z N n a xs 0 E) (hb : Rds z N n b ys 0 E) (hc : Rds z N n c zs 0 E) :
  Rds z N (n + 1) T (([105, 102] :: xs) ++ ([116, 104, 101, 110] :: ys) ++ ([101, 108, 115, 101] :: zs)) 0 (anyB z N E) := by
 intro us hu hN
 obtain ⟨u, v, rfl, h1, h2⟩ := Ms.app hu
 obtain ⟨u1, u2, rfl, h3, h4⟩ := Ms.app h1
 obtain ⟨t, w1, rfl, h5, h6⟩ := h3
 obtain ⟨p, w2, rfl, h7, h8⟩ := h4
 obtain ⟨q, w3, rfl, h9, h10⟩ := h2
 have e1 : t.text = w_if := mt_key h5 (by decide)
 have e2 : p.text = w_then := mt_key h7 (by decide)
 have e3 : q.text = w_else := mt_key h9 (by decide)
 have hpk := mt_kind h7 (by decide) (.inr (by decide))
 have hqk := mt_kind h9 (by decide) (.inr (by decide))
 simp only [List.length_append, List.length_cons] at hN
 obtain ⟨U, hU, hR⟩ := ha w1 h6 (by omega)
 obtain ⟨V, hV, hR2⟩ := hb w2 h8 (by omega)
 obtain ⟨W, hW, hR3⟩ := hc w3 h10 (by omega)
 refine ⟨nd 11 t.pos [U, V, W], ⟨hk, hx.1, hx.2, by rw [hl]; rfl, fun i h1 h2 => ?_⟩, fun r hs => ?_⟩
 ·simp only [hl, List.length_cons, List.length_nil] at h1
  obtain rfl | rfl | rfl : i = 0 ∨ i = 1 ∨ i = 2 := by omega
  ·simp only [hl]; exact hU
  ·simp only [hl]; exact hV
  ·simp only [hl]; exact hW
 ·have e : t :: w1 ++ p :: w2 ++ q :: w3 ++ r = t :: (w1 ++ (p :: (w2 ++ (q :: (w3 ++ r))))) := by simp
  rw [e, any_word, e1]
  show ifB z E (t :: (w1 ++ (p :: (w2 ++ (q :: (w3 ++ r)))))) = _
  unfold ifB
  rw [take_yes]
  simp only [bnd]
  rw [hR _ (st_key e2 hpk 0 (by decide) (by decide) (by decide) (by decide) (by decide) (by decide) _)]
  simp only []
  rw [need_yes e2]
  simp only []
  rw [hR2 _ (st_key e3 hqk 0 (by decide) (by decide) (by decide) (by decide) (by decide) (by decide) _)]
  simp only []
  rw [need_yes e3]
  simp only []
  rw [hR3 r hs]
theorem any_let (hz : z.fin.1 = 0) {n : Nat} {T a b : Tr} {xs ys : List (List UInt8)} {E : List Tk → R Tr} (hk : T.kind = 9) (hx : NmOK T.name) (hm : T.num = 0) (hl : T.kids = [a, b]) (ha : Rds z N n a xs 0 E) (hb : Rds z N n b ys 0 E) :
  Rds z N (n + 1) T (([[108, 101, 116]] ++ [T.name] ++ ([61] :: xs)) ++ ([105, 110] :: ys)) 0 (anyB z N E) := by
 intro us hu hN
 obtain ⟨u, v, rfl, h1, h2⟩ := Ms.app hu
 obtain ⟨t, w1, rfl, h5, q, w2, rfl, h6, c, w3, rfl, h7, h8⟩ := h1
 obtain ⟨p, w4, rfl, h9, h10⟩ := h2
 have e1 : t.text = w_let := mt_key h5 (by decide)
 obtain ⟨k, e⟩ := mt_name h6 hx.1 hx.2.1 hx.2.2.1
 have e2 : c.text = s_eq := mt_key h7 (by decide)
 have hck := mt_kind h7 (by decide) (.inl (by decide))
 have e3 : p.text = w_in := mt_key h9 (by decide)
 have hpk := mt_kind h9 (by decide) (.inr (by decide))
 have hqr : q.text ≠ w_rec := by
  intro h
  rw [h] at e
  have := hx.2.2.1
  rw [← e] at this
  exact absurd this (by decide)
 simp only [List.length_append, List.length_cons] at hN
 obtain ⟨U, hU, hR⟩ := ha w3 h8 (by omega)
 obtain ⟨V, hV, hR2⟩ := hb w4 h10 (by omega)
 refine ⟨.mk 9 t.pos q.text 0 [U, V], ⟨hk, e.symm, hm, by rw [hl]; rfl, fun i h1 h2 => ?_⟩, fun r hs => ?_⟩
 ·simp only [hl, List.length_cons, List.length_nil] at h1
  obtain rfl | rfl : i = 0 ∨ i = 1 := by omega
  ·simp only [hl]; exact hU
  ·simp only [hl]; exact hV
 ·have ee : t :: q :: c :: w3 ++ p :: w4 ++ r = t :: (q :: (c :: (w3 ++ (p :: (w4 ++ r))))) := by simp
  rw [ee, any_word, e1]
  show letB z N E (t :: (q :: (c :: (w3 ++ (p :: (w4 ++ r)))))) = _
  unfold letB bindB
  rw [take_yes]
  simp only [bnd]
  rw [ite_no hz (by exact hqr)]
  rw [kind_yes k]
  simp only []
  rw [names_stop (n := N) (l := []) (r := c :: (w3 ++ (p :: (w4 ++ r)))) hz hck.2 (by omega) (Nat.zero_le _)]
  simp only []
  rw [need_yes e2]
  simp only []
  rw [hR _ (st_key e3 hpk 0 (by decide) (by decide) (by decide) (by decide) (by decide) (by decide) _)]
  simp only []
  rw [need_yes e3]
  simp only []
  rw [hR2 r hs]
  rfl
end Sy

namespace Sy
open Lx
variable {z : Env} {N : Nat}

theorem Rds.le {n m : Nat} {T : Tr} {xs : List (List UInt8)} {l : Int} {P : List Tk → R Tr} (h : Rds z N n T xs l P) (hm : n ≤ m) : Rds z N m T xs l P := by
 intro us hu hN
 obtain ⟨U, hU, hR⟩ := h us hu hN
 exact ⟨U, hU.le hm, hR⟩
theorem RdC.le {n m : Nat} {T : Tr} {xs : List (List UInt8)} {l : Int} {P : List Tk → R Tr} {L : Nat → Tr → List Tk → R Tr} (h : RdC z N n T xs l P L) (hm : n ≤ m) : RdC z N m T xs l P L := by
 intro us hu hN
 obtain ⟨i, U, hi, hU, hR⟩ := h us hu hN
 exact ⟨i, U, hi, hU.le hm, hR⟩
theorem not_rec {q : Tk} {x : List UInt8} (e : q.text = x) (h : NmOK x) : q.text ≠ w_rec := by
 intro h'
 have := h.2.2.1
 rw [← e, h'] at this
 exact absurd this (by decide)
theorem any_letrec (hz : z.fin.1 = 0) {n : Nat} {T f a b : Tr} {xs ys : List (List UInt8)} {E : List Tk → R Tr} (hk : T.kind = 9) (hx : NmOK T.name) (hm : T.num = 1) (hl : T.kids = [f, b]) (hfk : f.kind = 7) (hfx : NmOK f.name) (hfm : f.num = 0) (hfl : f.kids = [a])
  (ha : Rds z N n a xs 0 E) (hb : Rds z N n b ys 0 E) :
  Rds z N (n + 2) T (([[108, 101, 116]] ++ [[114, 101, 99]] ++ [T.name] ++ [f.name] ++ ([61] :: xs)) ++ ([105, 110] :: ys)) 0 (anyB z N E) := by
 intro us hu hN
 obtain ⟨u, v, rfl, h1, h2⟩ := Ms.app hu
 obtain ⟨t, w1, rfl, h5, s, w0, rfl, h0, q, w2, rfl, h6, d, w5, rfl, h11, c, w3, rfl, h7, h8⟩ := h1
 obtain ⟨p, w4, rfl, h9, h10⟩ := h2
 have e1 : t.text = w_let := mt_key h5 (by decide)
 have e0 : s.text = w_rec := mt_key h0 (by decide)
 obtain ⟨k, e⟩ := mt_name h6 hx.1 hx.2.1 hx.2.2.1
 obtain ⟨k5, e5⟩ := mt_name h11 hfx.1 hfx.2.1 hfx.2.2.1
 have e2 : c.text = s_eq := mt_key h7 (by decide)
 have hck := mt_kind h7 (by decide) (.inl (by decide))
 have e3 : p.text = w_in := mt_key h9 (by decide)
 have hpk := mt_kind h9 (by decide) (.inr (by decide))
 simp only [List.length_append, List.length_cons] at hN
 obtain ⟨U, hU, hR⟩ := ha w3 h8 (by omega)
 obtain ⟨V, hV, hR2⟩ := hb w4 h10 (by omega)
 refine ⟨.mk 9 t.pos q.text 1 [nm 7 d.pos d.text [U], V], ⟨hk, e.symm, hm, by rw [hl]; rfl, fun i h1 h2 => ?_⟩, fun r hs => ?_⟩
 ·simp only [hl, List.length_cons, List.length_nil] at h1
  obtain rfl | rfl : i = 0 ∨ i = 1 := by omega
  ·simp only [hl]
   refine ⟨hfk, e5.symm, hfm, by simp only [List.getElem_cons_zero]; rw [hfl]; rfl, fun i h1 h2 => ?_⟩
   have ei : i = 0 := by simp only [List.getElem_cons_zero, hfl, List.length_singleton] at h1; omega
   subst ei
   simp only [List.getElem_cons_zero, hfl]
   exact hU
  ·simp only [hl]
   exact hV.up
 ·have ee : t :: s :: q :: d :: c :: w3 ++ p :: w4 ++ r = t :: (s :: (q :: (d :: (c :: (w3 ++ (p :: (w4 ++ r))))))) := by simp
  rw [ee, any_word, e1]
  show letB z N E (t :: (s :: (q :: (d :: (c :: (w3 ++ (p :: (w4 ++ r)))))))) = _
  unfold letB bindB
  rw [take_yes]
  simp only [bnd]
  rw [ite_yes e0, kind_yes k]
  simp only []
  rw [names_one (N := N) hz k5 (r := c :: (w3 ++ (p :: (w4 ++ r)))) hck.2 (by omega) (Nat.le_refl 1)]
  simp only []
  rw [need_yes e2]
  simp only []
  rw [hR _ (st_key e3 hpk 0 (by decide) (by decide) (by decide) (by decide) (by decide) (by decide) _)]
  simp only []
  rw [need_yes e3]
  simp only []
  rw [hR2 r hs]
  rfl
theorem eq_nm {n : Nat} {c : Tr} {t : Tk} (h : NmT c) (e : t.text = c.name) : EqT (n + 1) c (nm 23 t.pos t.text []) := eq_leaf h.1 e.symm h.2.1 h.2.2.1 rfl
theorem named_yes {t : Tk} {r : List Tk} (h : t.kind = 2) : namedB z (t :: r) = .ok (nm 23 t.pos t.text [], r) := by
 unfold namedB
 rw [kind_yes h]
 rfl
theorem any_case {n : Nat} {T a b c d e : Tr} {xs ys zs : List (List UInt8)} {E : List Tk → R Tr} (hk : T.kind = 17) (hx : Nd0 T) (hl : T.kids = [a, b, c, d, e]) (hc : NmT c) (hd' : NmT d) (hn : 1 ≤ n) (ha : Rds z N n a xs 0 E) (hb : Rds z N n b ys 0 E) (he : Rds z N n e zs 0 E) :
  Rds z N (n + 1) T (([99, 97, 115, 101] :: xs) ++ [[111, 102], [91], [93]] ++ ([61, 62] :: ys) ++ [[124], c.name, [58, 58], d.name] ++ ([61, 62] :: zs) ++ [[101, 110, 100]]) 0 (anyB z N E) := by
 intro us hu hN
 obtain ⟨us, v6, rfl, hu, g6⟩ := Ms.app hu
 obtain ⟨us, v5, rfl, hu, g5⟩ := Ms.app hu
 obtain ⟨us, v4, rfl, hu, g4⟩ := Ms.app hu
 obtain ⟨us, v3, rfl, hu, g3⟩ := Ms.app hu
 obtain ⟨us, v2, rfl, hu, g2⟩ := Ms.app hu
 obtain ⟨t, w1, rfl, h1, k1⟩ := hu
 obtain ⟨q1, _, rfl, h2, q2, _, rfl, h3, q3, _, rfl, h4, rfl⟩ := g2
 obtain ⟨q4, w2, rfl, h5, k2⟩ := g3
 obtain ⟨q5, _, rfl, h6, x, _, rfl, h7, q6, _, rfl, h8, y, _, rfl, h9, rfl⟩ := g4
 obtain ⟨q7, w3, rfl, h10, k3⟩ := g5
 obtain ⟨q8, _, rfl, h11, rfl⟩ := g6
 have e1 : t.text = w_case := mt_key h1 (by decide)
 have e2 : q1.text = w_of := mt_key h2 (by decide)
 have e3 : q2.text = s_ls := mt_key h3 (by decide)
 have e4 : q3.text = s_rs := mt_key h4 (by decide)
 have e5 : q4.text = s_to := mt_key h5 (by decide)
 have e6 : q5.text = s_bar := mt_key h6 (by decide)
 obtain ⟨kx, ex⟩ := mt_name h7 hc.2.2.2.1 hc.2.2.2.2.1 hc.2.2.2.2.2.1
 have e7 : q6.text = s_cons := mt_key h8 (by decide)
 obtain ⟨ky, ey⟩ := mt_name h9 hd'.2.2.2.1 hd'.2.2.2.2.1 hd'.2.2.2.2.2.1
 have e8 : q7.text = s_to := mt_key h10 (by decide)
 have e9 : q8.text = w_end := mt_key h11 (by decide)
 have f1 := mt_kind h2 (by decide) (.inr (by decide))
 have f2 := mt_kind h6 (by decide) (.inl (by decide))
 have f3 := mt_kind h11 (by decide) (.inr (by decide))
 simp only [List.length_append, List.length_cons, List.length_nil] at hN
 obtain ⟨U, hU, hR⟩ := ha w1 k1 (by omega)
 obtain ⟨V, hV, hR2⟩ := hb w2 k2 (by omega)
 obtain ⟨W, hW, hR3⟩ := he w3 k3 (by omega)
 obtain ⟨n, rfl⟩ : ∃ m, n = m + 1 := ⟨n - 1, by omega⟩
 refine ⟨nd 17 t.pos [U, V, nm 23 x.pos x.text [], nm 23 y.pos y.text [], W], ⟨hk, hx.1, hx.2, by rw [hl]; rfl, fun i h1 h2 => ?_⟩, fun r hs => ?_⟩
 ·simp only [hl, List.length_cons, List.length_nil] at h1
  obtain rfl | rfl | rfl | rfl | rfl : i = 0 ∨ i = 1 ∨ i = 2 ∨ i = 3 ∨ i = 4 := by omega
  ·simp only [hl]; exact hU
  ·simp only [hl]; exact hV
  ·simp only [hl]; exact eq_nm hc ex
  ·simp only [hl]; exact eq_nm hd' ey
  ·simp only [hl]; exact hW
 ·have ee : t :: w1 ++ [q1, q2, q3] ++ q4 :: w2 ++ [q5, x, q6, y] ++ q7 :: w3 ++ [q8] ++ r = t :: (w1 ++ (q1 :: (q2 :: (q3 :: (q4 :: (w2 ++ (q5 :: (x :: (q6 :: (y :: (q7 :: (w3 ++ (q8 :: r))))))))))))) := by simp
  rw [ee, any_word, e1]
  show casesB z E (t :: (w1 ++ (q1 :: (q2 :: (q3 :: (q4 :: (w2 ++ (q5 :: (x :: (q6 :: (y :: (q7 :: (w3 ++ (q8 :: r)))))))))))))) = _
  unfold casesB
  rw [take_yes]
  simp only [bnd]
  rw [hR _ (st_key e2 f1 0 (by decide) (by decide) (by decide) (by decide) (by decide) (by decide) _)]
  simp only []
  rw [need_yes e2]
  simp only []
  rw [need_yes e3]
  simp only []
  rw [need_yes e4]
  simp only []
  rw [need_yes e5]
  simp only []
  rw [hR2 _ (st_key e6 f2 0 (by decide) (by decide) (by decide) (by decide) (by decide) (by decide) _)]
  simp only []
  rw [need_yes e6]
  simp only []
  rw [named_yes kx]
  simp only []
  rw [need_yes e7]
  simp only []
  rw [named_yes ky]
  simp only []
  rw [need_yes e8]
  simp only []
  rw [hR3 _ (st_key e9 f3 0 (by decide) (by decide) (by decide) (by decide) (by decide) (by decide) _)]
  simp only []
  rw [need_yes e9]
end Sy

namespace Sy
open Lx
variable {z : Env} {N : Nat}

theorem clause_read {n : Nat} {q x y c : Tr} {xs : List (List UInt8)} {E : List Tk → R Tr} (hk : q.kind = 22) (hx : NmOK q.name) (hm : q.num = 0) (hl : q.kids = [x, y, c]) (h1 : NmT x) (h2 : NmT y) (hn : 1 ≤ n) (hc : Rds z N n c xs 0 E) :
  Rds z N (n + 1) q ([q.name, x.name, y.name] ++ ([61, 62] :: xs)) 0 (clauseB z E) := by
 intro us hu hN
 obtain ⟨o, _, rfl, g1, s, _, rfl, g2, t, _, rfl, g3, p, w, rfl, g4, g5⟩ := hu
 obtain ⟨ko, eo⟩ := mt_name g1 hx.1 hx.2.1 hx.2.2.1
 obtain ⟨ks, es⟩ := mt_name g2 h1.2.2.2.1 h1.2.2.2.2.1 h1.2.2.2.2.2.1
 obtain ⟨kt, et⟩ := mt_name g3 h2.2.2.2.1 h2.2.2.2.2.1 h2.2.2.2.2.2.1
 have e : p.text = s_to := mt_key g4 (by decide)
 simp only [List.length_cons] at hN
 obtain ⟨U, hU, hR⟩ := hc w g5 (by omega)
 obtain ⟨n, rfl⟩ : ∃ m, n = m + 1 := ⟨n - 1, by omega⟩
 refine ⟨nm 22 o.pos o.text [nm 23 s.pos s.text [], nm 23 t.pos t.text [], U], ⟨hk, eo.symm, hm, by rw [hl]; rfl, fun i i1 i2 => ?_⟩, fun r hs => ?_⟩
 ·simp only [hl, List.length_cons, List.length_nil] at i1
  obtain rfl | rfl | rfl : i = 0 ∨ i = 1 ∨ i = 2 := by omega
  ·simp only [hl]; exact eq_nm h1 es
  ·simp only [hl]; exact eq_nm h2 et
  ·simp only [hl]; exact hU
 ·show clauseB z E (o :: (s :: (t :: (p :: (w ++ r))))) = _
  unfold clauseB
  rw [kind_yes ko]
  simp only [bnd]
  rw [named_yes ks]
  simp only []
  rw [named_yes kt]
  simp only []
  rw [need_yes e]
  simp only []
  rw [hR r hs]
theorem clauses_read (hz : z.fin.1 = 0) {n : Nat} {E : List Tk → R Tr} {f : Tr → List (List UInt8)} : ∀ (cs : List Tr) (l : List Tr) (us : List Tk), (∀ q ∈ cs, Rds z N n q (f q) 0 (clauseB z E)) → Ms (cs.flatMap fun q => [124] :: f q) us → us.length < N →
  ∃ vs : List Tr, vs.length = cs.length ∧ (∀ i (h : i < cs.length) (h' : i < vs.length), EqT n cs[i] vs[i]) ∧ ∀ p (q : Tk) (r : List Tk), us.length < p → q.text = s_rb → q.kind ≠ 1 ∧ q.kind ≠ 2 → clausesB z E p l (us ++ (q :: r)) = .ok (l ++ vs, q :: r) := by
 intro cs
 induction cs with
 | nil =>
  intro l us _ hu _
  rw [show us = [] from hu]
  refine ⟨[], rfl, fun i h => by simp at h, fun p q r hp hq hk => ?_⟩
  obtain ⟨p, rfl⟩ : ∃ m, p = m + 1 := ⟨p - 1, by omega⟩
  simp only [clausesB, List.nil_append]
  rw [ite_no hz (by show q.text ≠ s_bar; rw [hq]; decide)]
  simp
 | cons c cs ih =>
  intro l us hq hu hN
  rw [List.flatMap_cons] at hu
  obtain ⟨u, v, rfl, h1, h2⟩ := Ms.app hu
  obtain ⟨b, w, rfl, h3, h4⟩ := h1
  have e : b.text = s_bar := mt_key h3 (by decide)
  simp only [List.length_append, List.length_cons] at hN
  obtain ⟨U, hU, hR⟩ := hq c (by simp) w h4 (by omega)
  obtain ⟨vs, v1, v2, v3⟩ := ih (l ++ [U]) v (fun q hq' => hq q (by simp [hq'])) h2 (by omega)
  refine ⟨U :: vs, by simp [v1], fun i h h' => ?_, fun p q r hp hqt hqk => ?_⟩
  ·cases i with
   | zero => exact hU
   | succ i => simpa using v2 i (by simpa using h) (by simpa using h')
  ·simp only [List.length_append, List.length_cons] at hp
   obtain ⟨p, rfl⟩ : ∃ m, p = m + 1 := ⟨p - 1, by omega⟩
   have ee : b :: w ++ v ++ q :: r = b :: (w ++ (v ++ (q :: r))) := by simp
   have hst : StE 0 (hd z (v ++ (q :: r))) := by
    cases cs with
    | nil =>
     rw [show v = [] from h2]
     exact st_key hqt hqk 0 (by decide) (by decide) (by decide) (by decide) (by decide) (by decide) _
    | cons c2 cs =>
     rw [List.flatMap_cons] at h2
     obtain ⟨b2, w2, rfl, h5, h6⟩ := h2
     have e2 : b2.text = s_bar := mt_key h5 (by decide)
     exact st_key e2 (mt_kind h5 (by decide) (.inl (by decide))) 0 (by decide) (by decide) (by decide) (by decide) (by decide) (by decide) _
   rw [ee]
   simp only [clausesB]
   rw [ite_yes e, hR _ hst]
   simp only [bnd]
   rw [v3 p q r (by omega) hqt hqk]
   simp
theorem any_handle (hz : z.fin.1 = 0) {n : Nat} {T a rt e : Tr} {cs : List Tr} {xs ys : List (List UInt8)} {f : Tr → List (List UInt8)} {E : List Tk → R Tr} (hk : T.kind = 20) (hx : T.name = []) (hm : T.num = 0 ∨ T.num = 1) (hl : T.kids = a :: rt :: cs)
  (hrk : rt.kind = 21) (hrx : NmOK rt.name) (hrm : rt.num = 0) (hrl : rt.kids = [e]) (ha : Rds z N n a xs 0 E) (he : Rds z N n e ys 0 E) (hcs : ∀ q ∈ cs, Rds z N (n + 1) q (f q) 0 (clauseB z E)) :
  Rds z N (n + 2) T (((if T.num = 1 then [115, 104, 97, 108, 108, 111, 119] else [104, 97, 110, 100, 108, 101]) :: xs) ++ [[119, 105, 116, 104]] ++ ([123] :: ([[114, 101, 116, 117, 114, 110], rt.name] ++ ([61, 62] :: ys))) ++ cs.flatMap (fun q => [124] :: f q) ++ [[125]]) 0 (anyB z N E) := by
 intro us hu hN
 obtain ⟨us, v5, rfl, hu, g5⟩ := Ms.app hu
 obtain ⟨us, v4, rfl, hu, g4⟩ := Ms.app hu
 obtain ⟨us, v3, rfl, hu, g3⟩ := Ms.app hu
 obtain ⟨us, v2, rfl, hu, g2⟩ := Ms.app hu
 obtain ⟨t, w1, rfl, h1, k1⟩ := hu
 obtain ⟨q1, _, rfl, h2, rfl⟩ := g2
 obtain ⟨q2, _, rfl, h3, q3, _, rfl, h4, x, _, rfl, h5, q4, w2, rfl, h6, k2⟩ := g3
 obtain ⟨q5, _, rfl, h7, rfl⟩ := g5
 have e2 : q1.text = w_with := mt_key h2 (by decide)
 have e3 : q2.text = s_lb := mt_key h3 (by decide)
 have e4 : q3.text = w_return := mt_key h4 (by decide)
 obtain ⟨kx, ex⟩ := mt_name h5 hrx.1 hrx.2.1 hrx.2.2.1
 have e6 : q4.text = s_to := mt_key h6 (by decide)
 have e7 : q5.text = s_rb := mt_key h7 (by decide)
 have f1 := mt_kind h2 (by decide) (.inr (by decide))
 have f7 := mt_kind h7 (by decide) (.inl (by decide))
 simp only [List.length_append, List.length_cons, List.length_nil] at hN
 obtain ⟨U, hU, hR⟩ := ha w1 k1 (by omega)
 obtain ⟨V, hV, hR2⟩ := he w2 k2 (by omega)
 obtain ⟨vs, c1, c2, c3⟩ := clauses_read hz cs [U, nm 21 q3.pos x.text [V]] v4 hcs g4 (by omega)
 have ht : t.text = (if T.num = 1 then w_shallow else w_handle) := by
  rcases hm with hm | hm
  ·rw [hm, if_neg (by omega)] at h1
   rw [hm, if_neg (by omega)]
   exact mt_key h1 (by decide)
  ·rw [hm, if_pos rfl] at h1
   rw [hm, if_pos rfl]
   exact mt_key h1 (by decide)
 refine ⟨.mk 20 t.pos [] (if t.text == w_shallow then 1 else 0) ([U, nm 21 q3.pos x.text [V]] ++ vs), ⟨hk, hx, ?_, by rw [hl]; simp [Tr.kids, c1], fun i i1 i2 => ?_⟩, fun r hs => ?_⟩
 ·show T.num = (if t.text == w_shallow then 1 else 0)
  rw [ht]
  rcases hm with hm | hm
  ·rw [hm]; rfl
  ·rw [hm]; rfl
 ·have ek : (Tr.mk 20 t.pos [] (if t.text == w_shallow then 1 else 0) ([U, nm 21 q3.pos x.text [V]] ++ vs)).kids = U :: nm 21 q3.pos x.text [V] :: vs := rfl
  simp only [hl, ek] at i1 i2 ⊢
  match i with
  | 0 => exact hU.up
  | 1 =>
   refine ⟨hrk, ex.symm, hrm, by simp only [List.getElem_cons_succ, List.getElem_cons_zero]; rw [hrl]; rfl, fun j j1 j2 => ?_⟩
   have ej : j = 0 := by simp only [List.getElem_cons_succ, List.getElem_cons_zero, hrl, List.length_singleton] at j1; omega
   subst ej
   simp only [List.getElem_cons_succ, List.getElem_cons_zero, hrl]
   exact hV
  | i + 2 =>
   simp only [List.length_cons] at i1 i2
   simpa using c2 i (by omega) (by omega)
 ·have ee : t :: w1 ++ [q1] ++ q2 :: q3 :: x :: q4 :: w2 ++ v4 ++ [q5] ++ r = t :: (w1 ++ (q1 :: (q2 :: (q3 :: (x :: (q4 :: (w2 ++ (v4 ++ (q5 :: r))))))))) := by simp
  have hst : StE 0 (hd z (v4 ++ (q5 :: r))) := by
   cases cs with
   | nil =>
    rw [show v4 = [] from g4]
    exact st_key e7 f7 0 (by decide) (by decide) (by decide) (by decide) (by decide) (by decide) _
   | cons c2 cs =>
    rw [List.flatMap_cons] at g4
    obtain ⟨b2, w2, rfl, h5, h6⟩ := g4
    have e2 : b2.text = s_bar := mt_key h5 (by decide)
    exact st_key e2 (mt_kind h5 (by decide) (.inl (by decide))) 0 (by decide) (by decide) (by decide) (by decide) (by decide) (by decide) _
  have ha : anyB z N E (t :: (w1 ++ (q1 :: (q2 :: (q3 :: (x :: (q4 :: (w2 ++ (v4 ++ (q5 :: r)))))))))) = handleB z N E (t :: (w1 ++ (q1 :: (q2 :: (q3 :: (x :: (q4 :: (w2 ++ (v4 ++ (q5 :: r)))))))))) := by
   rw [any_word, ht]
   rcases hm with hm | hm
   ·rw [hm]; rfl
   ·rw [hm]; rfl
  rw [ee, ha]
  unfold handleB retB
  rw [take_yes]
  simp only [bnd]
  rw [hR _ (st_key e2 f1 0 (by decide) (by decide) (by decide) (by decide) (by decide) (by decide) _)]
  simp only []
  rw [need_yes e2]
  simp only []
  rw [need_yes e3]
  simp only []
  rw [show lookB z (q3 :: (x :: (q4 :: (w2 ++ (v4 ++ (q5 :: r)))))) = .ok (q3, q3 :: (x :: (q4 :: (w2 ++ (v4 ++ (q5 :: r)))))) from rfl]
  simp only []
  rw [need_yes e4]
  simp only []
  rw [kind_yes kx]
  simp only []
  rw [need_yes e6]
  simp only []
  rw [hR2 _ hst]
  simp only []
  rw [c3 N q5 r (by omega) e7 f7]
  simp only []
  rw [need_yes e7]
end Sy

namespace Sy
open Lx
variable {z : Env} {N : Nat}

theorem dg_byte (d : Nat) (h : d < 10) : isDig (48 + d).toUInt8 = true ∧ ((48 + d).toUInt8).toNat = 48 + d := by
 have key : ∀ d : Fin 10, isDig (48 + d.val).toUInt8 = true ∧ ((48 + d.val).toUInt8).toNat = 48 + d.val := by decide
 exact key ⟨d, h⟩
theorem dig_all : ∀ (k n : Nat), n ≤ k → (∀ c ∈ dig n, isDig c = true) ∧ numVal (dig n) = n ∧ dig n ≠ [] ∧ (1 ≤ n → (dig n).head? ≠ some 48) := by
 intro k
 induction k with
 | zero =>
  intro n h
  have : n = 0 := by omega
  subst this
  rw [dig, dif_pos (by omega)]
  refine ⟨by decide, by decide, by decide, fun h => absurd h (by omega)⟩
 | succ k ih =>
  intro n h
  rw [dig]
  by_cases h1 : n < 10
  ·rw [dif_pos h1]
   obtain ⟨b1, b2⟩ := dg_byte n h1
   refine ⟨fun c hc => ?_, ?_, by simp, fun h2 => ?_⟩
   ·rw [List.mem_singleton] at hc
    rw [hc]; exact b1
   ·simp only [numVal, List.foldl_cons, List.foldl_nil, b2]
    omega
   ·simp only [List.head?_cons, ne_eq, Option.some.injEq]
    intro e
    rw [e] at b2
    have : (48 : UInt8).toNat = 48 := by decide
    omega
  ·rw [dif_neg h1]
   obtain ⟨h2, h3, h4, h5⟩ := ih (n / 10) (by omega)
   obtain ⟨b1, b2⟩ := dg_byte (n % 10) (by omega)
   refine ⟨fun c hc => ?_, ?_, by simp, fun _ => ?_⟩
   ·rw [List.mem_append, List.mem_singleton] at hc
    rcases hc with hc | hc
    ·exact h2 c hc
    ·rw [hc]; exact b1
   ·have e : numVal (dig (n / 10) ++ [(48 + n % 10).toUInt8]) = 10 * numVal (dig (n / 10)) + (((48 + n % 10).toUInt8).toNat - 48) := by simp only [numVal, List.foldl_append, List.foldl_cons, List.foldl_nil]
    rw [e, h3, b2]
    omega
   ·have h6 := h5 (by omega)
    cases hd : dig (n / 10) with
    | nil => exact absurd hd h4
    | cons c r =>
     rw [hd] at h6
     simpa using h6
theorem dig_cons (n : Nat) : ∃ c r, dig n = c :: r ∧ isDig c = true := by
 obtain ⟨h1, _, h3, _⟩ := dig_all n n (Nat.le_refl _)
 cases hd : dig n with
 | nil => exact absurd hd h3
 | cons c r => exact ⟨c, r, rfl, h1 c (by rw [hd]; simp)⟩
theorem dig_head (n : Nat) : ((dig n).head?.map isDig).getD false = true := by
 obtain ⟨c, r, e, h⟩ := dig_cons n
 rw [e]
 simp [h]
theorem dig_lexes (n : Nat) (hn : n ≤ 9223372036854775807) : Lexes (dig n) := by
 obtain ⟨h1, h2, h3, h4⟩ := dig_all n n (Nat.le_refl _)
 have ho : okNum (dig n) = true := by
  unfold okNum
  rw [h2]
  by_cases h0 : n = 0
  ·subst h0
   rw [dig, dif_pos (by omega)]
   decide
  ·have h5 := h4 (by omega)
   have e : ((dig n).head? == some 48) = false := by simpa using h5
   simp [e, hn]
 cases hd : dig n with
 | nil => exact absurd hd h3
 | cons c r =>
  rw [hd] at h1 ho
  exact lexes_num c r h1 ho
theorem atom_num {n : Nat} {T : Tr} {E : List Tk → R Tr} (hk : T.kind = 3) (hx : T.name = []) (hl : T.kids = []) : Rds z N (n + 1) T (numTk T.num) 6 (atomB z N E) := by
 unfold numTk
 have hv := (dig_all T.num.natAbs T.num.natAbs (Nat.le_refl _)).2.1
 by_cases h0 : T.num < 0
 ·rw [if_pos h0]
  rintro us ⟨t, _, rfl, h1, q, _, rfl, h2, rfl⟩ hN
  have e : t.text = s_tilde := mt_key h1 (by decide)
  obtain ⟨kq, nq⟩ := mt_num h2 (dig_head _)
  rw [hv] at nq
  refine ⟨.mk 3 t.pos [] (-q.num) [], eq_leaf hk hx (by show T.num = -(q.num : Int); rw [nq]; omega) hl rfl, fun r _ => ?_⟩
  show atomB z N E (t :: (q :: r)) = _
  rw [atom_key e (mt_kind h1 (by decide) (.inl (by decide)))]
  show bnd (kindB z 1 (q :: r)) _ = _
  rw [kind_yes kq]
  rfl
 ·rw [if_neg h0]
  rintro us ⟨q, _, rfl, h2, rfl⟩ hN
  obtain ⟨kq, nq⟩ := mt_num h2 (dig_head _)
  rw [hv] at nq
  refine ⟨.mk 3 q.pos [] q.num [], eq_leaf hk hx (by show T.num = (q.num : Int); rw [nq]; omega) hl rfl, fun r _ => ?_⟩
  unfold atomB
  rw [show lookB z ([q] ++ r) = .ok (q, q :: r) from rfl]
  simp only [bnd, kq]
  rfl
end Sy

namespace Sy
open Lx
variable {z : Env} {N : Nat}

def FT (l : Int) (t : Tk) : Prop :=
 t.text ≠ s_rp ∧ (1 ≤ l → t.text ≠ w_let ∧ t.text ≠ w_fn ∧ t.text ≠ w_if ∧ t.text ≠ w_case ∧ t.text ≠ w_handle ∧ t.text ≠ w_shallow) ∧ (6 ≤ l → beginsB t = true ∧ t.text ≠ w_do ∧ t.text ≠ w_fst ∧ t.text ≠ w_snd)
theorem FT.down {l m : Int} {t : Tk} (h : FT l t) (hm : m ≤ l) : FT m t := ⟨h.1, fun e => h.2.1 (by omega), fun e => h.2.2 (by omega)⟩
def Begins (l : Int) (xs : List (List UInt8)) : Prop := ∀ us, Ms xs us → ∃ t r, us = t :: r ∧ FT l t
theorem Begins.down {l m : Int} {xs : List (List UInt8)} (h : Begins l xs) (hm : m ≤ l) : Begins m xs := fun us hu => by
 obtain ⟨t, r, e, hf⟩ := h us hu
 exact ⟨t, r, e, hf.down hm⟩
theorem Begins.app {l : Int} {xs : List (List UInt8)} (h : Begins l xs) (ys : List (List UInt8)) : Begins l (xs ++ ys) := fun us hu => by
 obtain ⟨u, v, rfl, h1, _⟩ := Ms.app hu
 obtain ⟨t, r, rfl, hf⟩ := h u h1
 exact ⟨t, r ++ v, rfl, hf⟩
theorem ft_key {x : List UInt8} {t : Tk} (h : Mt x t) (hd : (x.head?.map isDig).getD false = false) (l : Int) (h1 : x ≠ s_rp) (h2 : 1 ≤ l → x ≠ w_let ∧ x ≠ w_fn ∧ x ≠ w_if ∧ x ≠ w_case ∧ x ≠ w_handle ∧ x ≠ w_shallow)
  (h3 : 6 ≤ l → (x == s_tilde || x == w_true || x == w_false || x == s_lp || x == s_ls) = true ∧ x ≠ w_do ∧ x ≠ w_fst ∧ x ≠ w_snd) : FT l t := by
 have e := mt_key h hd
 subst e
 refine ⟨h1, h2, fun hl => ⟨?_, (h3 hl).2⟩⟩
 have := (h3 hl).1
 simp only [Bool.or_eq_true, beq_iff_eq] at this
 unfold beginsB
 rcases this with (((h | h) | h) | h) | h <;> simp [h]
theorem begins_key {x : List UInt8} {xs : List (List UInt8)} (hd : (x.head?.map isDig).getD false = false) (l : Int) (h1 : x ≠ s_rp) (h2 : 1 ≤ l → x ≠ w_let ∧ x ≠ w_fn ∧ x ≠ w_if ∧ x ≠ w_case ∧ x ≠ w_handle ∧ x ≠ w_shallow)
  (h3 : 6 ≤ l → (x == s_tilde || x == w_true || x == w_false || x == s_lp || x == s_ls) = true ∧ x ≠ w_do ∧ x ≠ w_fst ∧ x ≠ w_snd) : Begins l (x :: xs) := by
 rintro us ⟨t, r, rfl, h, _⟩
 exact ⟨t, r, rfl, ft_key h hd l h1 h2 h3⟩
theorem begins_name {x : List UInt8} {xs : List (List UInt8)} (hx : NmOK x) : Begins 6 (x :: xs) := by
 rintro us ⟨t, r, rfl, h, _⟩
 obtain ⟨k, e⟩ := mt_name h hx.1 hx.2.1 hx.2.2.1
 have hw : ∀ y, isWd y = true → t.text ≠ y := fun y hy he => by
  have := hx.2.2.1
  rw [← e, he, hy] at this
  cases this
 refine ⟨t, r, rfl, fun he => ?_, fun _ => ⟨hw _ (by decide), hw _ (by decide), hw _ (by decide), hw _ (by decide), hw _ (by decide), hw _ (by decide)⟩, fun _ => ⟨by simp [beginsB, k], hw _ (by decide), hw _ (by decide), hw _ (by decide)⟩⟩
 have := hx.1
 rw [← e, he] at this
 exact absurd this (by decide)
theorem begins_num (m : Int) : Begins 6 (numTk m) := by
 unfold numTk
 split
 ·exact begins_key (by decide) 6 (by decide) (fun _ => by decide) (fun _ => by decide)
 ·rintro us ⟨t, r, rfl, h, _⟩
  have e : t.kind = 1 ∧ t.text = [] := by
   obtain ⟨pos, rfl⟩ := h
   unfold tokOf
   rw [if_pos (dig_head _)]
   exact ⟨rfl, rfl⟩
  refine ⟨t, r, rfl, ?_, fun _ => ?_, fun _ => ⟨by simp [beginsB, e.1], ?_⟩⟩ <;> rw [e.2] <;> decide
theorem begins_in {n : Nat} {a : Tr} {l : Int} (h : Begins (levP a.kind a.name) (tk n a)) (hl : l ≤ 6) : Begins l (inP (tk n) a l) := by
 unfold inP
 split
 ·rename_i h1
  exact h.down h1
 ·exact (begins_key (by decide) 6 (by decide) (fun _ => by decide) (fun _ => by decide) : Begins 6 ([40] :: (tk n a ++ [[41]]))).down hl
theorem begins_any : ∀ (n : Nat) (T : Tr), Ge n T → Begins (levP T.kind T.name) (tk n T) := by
 intro n
 induction n with
 | zero => intro T h; exact h.elim
 | succ n ih =>
  intro T h
  rcases h with ⟨hk, _⟩ | ⟨hk, _, _, hm⟩ | ⟨hk, _⟩ | ⟨hk, hx, _⟩ | ⟨hk, hx, _, a, hl, ha⟩ | ⟨hk, _, a, hl, ha⟩ | ⟨hk, _, a, b, hl, ha, hb⟩ | ⟨hk, hm, hx, a, b, hl, ha, hb⟩ | ⟨hk, hm, hx, f, a, b, hl, _⟩ | ⟨hk, _, a, b, c, hl, _⟩ | ⟨hk, _, a, b, c, d, e, hl, _⟩ | ⟨hk, hm, hx, a, b, hl, ha, hb⟩ | ⟨hk, _, hm, a, r, e, cs, hl, _⟩
  ·have e : tk (n + 1) T = numTk T.num := by simp [tk, hk]
   rw [e]
   exact (begins_num _).down (by simp [levP, hk])
  ·have e : tk (n + 1) T = [if T.num = 1 then [116, 114, 117, 101] else [102, 97, 108, 115, 101]] := by simp [tk, hk, leafTk]
   rw [e]
   refine Begins.down (l := 6) ?_ (by simp [levP, hk])
   split <;> exact begins_key (by decide) 6 (by decide) (fun _ => by decide) (fun _ => by decide)
  ·rcases hk with hk | hk
   ·have e : tk (n + 1) T = [[40], [41]] := by simp [tk, hk, leafTk]
    rw [e]
    exact (begins_key (by decide) 6 (by decide) (fun _ => by decide) (fun _ => by decide) : Begins 6 _).down (by simp [levP, hk])
   ·have e : tk (n + 1) T = [[91], [93]] := by simp [tk, hk, leafTk]
    rw [e]
    exact (begins_key (by decide) 6 (by decide) (fun _ => by decide) (fun _ => by decide) : Begins 6 _).down (by simp [levP, hk])
  ·have e : tk (n + 1) T = [T.name] := by simp [tk, hk, leafTk]
   rw [e]
   exact (begins_name hx).down (by simp [levP, hk])
  ·rcases hk with hk | hk
   ·have e : tk (n + 1) T = [102, 110] :: T.name :: [61, 62] :: tk n a := by simp [tk, hk, hl]
    rw [e]
    exact (begins_key (by decide) 0 (by decide) (fun h => absurd h (by omega)) (fun h => absurd h (by omega)) : Begins 0 _).down (by simp [levP, hk])
   ·have e : tk (n + 1) T = [100, 111] :: T.name :: inP (tk n) a 6 := by simp [tk, hk, hl]
    rw [e]
    exact (begins_key (by decide) 5 (by decide) (fun _ => by decide) (fun h => absurd h (by omega)) : Begins 5 _).down (by simp [levP, hk])
  ·rcases hk with hk | hk
   ·have e : tk (n + 1) T = [102, 115, 116] :: inP (tk n) a 6 := by simp [tk, hk, hl]
    rw [e]
    exact (begins_key (by decide) 5 (by decide) (fun _ => by decide) (fun h => absurd h (by omega)) : Begins 5 _).down (by simp [levP, hk])
   ·have e : tk (n + 1) T = [115, 110, 100] :: inP (tk n) a 6 := by simp [tk, hk, hl]
    rw [e]
    exact (begins_key (by decide) 5 (by decide) (fun _ => by decide) (fun h => absurd h (by omega)) : Begins 5 _).down (by simp [levP, hk])
  ·rcases hk with hk | hk | hk | hk
   ·have e : tk (n + 1) T = (if a.kind = 8 then tk n a else inP (tk n) a 6) ++ inP (tk n) b 6 := by simp [tk, hk, hl]
    rw [e]
    refine Begins.app ?_ _
    split
    ·rename_i h8
     exact (ih a ha).down (by rw [hk, h8]; simp [levP])
    ·exact (begins_in (ih a ha) (by omega)).down (by rw [hk]; simp [levP])
   ·have e : tk (n + 1) T = inP (tk n) a 1 ++ ([[59]] ++ tk n b) := by simp [tk, hk, hl]
    rw [e]
    exact ((begins_in (ih a ha) (by omega)).down (by rw [hk]; simp [levP])).app _
   ·have e : tk (n + 1) T = [40] :: (tk n a ++ [44] :: (tk n b ++ [[41]])) := by simp [tk, hk, hl]
    rw [e]
    exact (begins_key (by decide) 6 (by decide) (fun _ => by decide) (fun _ => by decide) : Begins 6 _).down (by simp [levP, hk])
   ·have e : tk (n + 1) T = inP (tk n) a 3 ++ ([[58, 58]] ++ inP (tk n) b 2) := by simp [tk, hk, hl]
    rw [e]
    exact ((begins_in (ih a ha) (by omega)).down (by rw [hk]; simp [levP])).app _
  ·have e : ∃ ys, tk (n + 1) T = [108, 101, 116] :: ys := by simp [tk, hk, hl, hm]
   obtain ⟨ys, e⟩ := e
   rw [e]
   exact (begins_key (by decide) 0 (by decide) (fun h => absurd h (by omega)) (fun h => absurd h (by omega)) : Begins 0 _).down (by simp [levP, hk])
  ·have e : ∃ ys, tk (n + 1) T = [108, 101, 116] :: ys := by simp [tk, hk, hl, hm]
   obtain ⟨ys, e⟩ := e
   rw [e]
   exact (begins_key (by decide) 0 (by decide) (fun h => absurd h (by omega)) (fun h => absurd h (by omega)) : Begins 0 _).down (by simp [levP, hk])
  ·have e : ∃ ys, tk (n + 1) T = [105, 102] :: ys := by simp [tk, hk, hl]
   obtain ⟨ys, e⟩ := e
   rw [e]
   exact (begins_key (by decide) 0 (by decide) (fun h => absurd h (by omega)) (fun h => absurd h (by omega)) : Begins 0 _).down (by simp [levP, hk])
  ·have e : ∃ ys, tk (n + 1) T = [99, 97, 115, 101] :: ys := by simp [tk, hk, hl]
   obtain ⟨ys, e⟩ := e
   rw [e]
   exact (begins_key (by decide) 0 (by decide) (fun h => absurd h (by omega)) (fun h => absurd h (by omega)) : Begins 0 _).down (by simp [levP, hk])
  ·have e : tk (n + 1) T = opTk T.name (tk n) a b := by simp [tk, hk, hl]
   rw [e]
   rcases hx with hx | hx | hx | hx | hx
   all_goals
    rw [hx]
    simp only [opTk, List.append_assoc]
    refine Begins.app ?_ _
    exact (begins_in (ih a ha) (by omega)).down (by rw [hk]; simp [levP])
  ·have e : ∃ x ys, tk (n + 1) T = x :: ys ∧ (x = [115, 104, 97, 108, 108, 111, 119] ∨ x = [104, 97, 110, 100, 108, 101]) := by
    rcases hm with hm | hm <;> simp [tk, hk, hl, hm]
   obtain ⟨x, ys, e, hx⟩ := e
   rw [e]
   rcases hx with rfl | rfl
   all_goals exact (begins_key (by decide) 0 (by decide) (fun h => absurd h (by omega)) (fun h => absurd h (by omega)) : Begins 0 _).down (by simp [levP, hk])
end Sy

namespace Sy
open Lx
variable {z : Env} {N : Nat}

theorem Begins.ne {l : Int} {xs : List (List UInt8)} (h : Begins l xs) : xs ≠ [] := by
 rintro rfl
 obtain ⟨t, r, e, _⟩ := h [] rfl
 cases e
structure Lvl (z : Env) (N n : Nat) (T : Tr) (xs : List (List UInt8)) (E : List Tk → R Tr) (l : Int) : Prop where
 a6 : 6 ≤ l → Rds z N n T xs 6 (atomB z N E)
 a5 : 5 ≤ l → Rds z N n T xs 5 (appB z N E)
 a4 : 4 ≤ l → RdC z N n T xs 5 (mulB z N E) (mulsB z N E)
 a3 : 3 ≤ l → RdC z N n T xs 4 (sumB z N E) (sumsB z N E)
 a2 : 2 ≤ l → ConsR z N n T xs E
 a1 : 1 ≤ l → Rds z N n T xs 1 (compB z N E)
 a0 : Rds z N n T xs 0 (anyB z N E)
theorem Lvl.down {n : Nat} {T : Tr} {xs : List (List UInt8)} {E : List Tk → R Tr} {l m : Int} (h : Lvl z N n T xs E l) (hm : m ≤ l) : Lvl z N n T xs E m :=
 ⟨fun e => h.a6 (by omega), fun e => h.a5 (by omega), fun e => h.a4 (by omega), fun e => h.a3 (by omega), fun e => h.a2 (by omega), fun e => h.a1 (by omega), h.a0⟩
section
variable {n : Nat} {T : Tr} {xs : List (List UInt8)} {E : List Tk → R Tr}
theorem lvl0 (h : Rds z N n T xs 0 (anyB z N E)) : Lvl z N n T xs E 0 :=
 ⟨fun e => absurd e (by omega), fun e => absurd e (by omega), fun e => absurd e (by omega), fun e => absurd e (by omega), fun e => absurd e (by omega), fun e => absurd e (by omega), h⟩
theorem six {l : Int} (hl : 1 ≤ l) (hb : Begins l xs) : ∀ us, Ms xs us → ∃ t r, us = t :: r ∧ t.text ≠ w_let ∧ t.text ≠ w_fn ∧ t.text ≠ w_if ∧ t.text ≠ w_case ∧ t.text ≠ w_handle ∧ t.text ≠ w_shallow := fun us hu => by
 obtain ⟨t, r, e, hf⟩ := hb us hu
 exact ⟨t, r, e, hf.2.1 hl⟩
theorem lvl1 (hz : z.fin.1 = 0) (hb : Begins 1 xs) (h : Rds z N n T xs 1 (compB z N E)) : Lvl z N n T xs E 1 :=
 ⟨fun e => absurd e (by omega), fun e => absurd e (by omega), fun e => absurd e (by omega), fun e => absurd e (by omega), fun e => absurd e (by omega), fun _ => h, any_of_seq (seq_of_comp hz h) (six (by omega) hb)⟩
theorem lvl2 (hz : z.fin.1 = 0) (hb : Begins 1 xs) (h : ConsR z N n T xs E) : Lvl z N n T xs E 2 :=
 let k := lvl1 hz hb (comp_of_cons hz h)
 ⟨fun e => absurd e (by omega), fun e => absurd e (by omega), fun e => absurd e (by omega), fun e => absurd e (by omega), fun _ => h, fun _ => k.a1 (by omega), k.a0⟩
theorem lvl3 (hz : z.fin.1 = 0) (hb : Begins 1 xs) (h : RdC z N n T xs 4 (sumB z N E) (sumsB z N E)) : Lvl z N n T xs E 3 :=
 let k := lvl2 hz hb (cons_of_sum hz (sum_stop hz h) hb.ne)
 ⟨fun e => absurd e (by omega), fun e => absurd e (by omega), fun e => absurd e (by omega), fun _ => h, fun _ => k.a2 (by omega), fun _ => k.a1 (by omega), k.a0⟩
theorem lvl4 (hz : z.fin.1 = 0) (hb : Begins 1 xs) (h : RdC z N n T xs 5 (mulB z N E) (mulsB z N E)) : Lvl z N n T xs E 4 :=
 let k := lvl3 hz hb (sum_of_mul (mul_stop hz h) hb.ne)
 ⟨fun e => absurd e (by omega), fun e => absurd e (by omega), fun _ => h, fun _ => k.a3 (by omega), fun _ => k.a2 (by omega), fun _ => k.a1 (by omega), k.a0⟩
theorem lvl5 (hz : z.fin.1 = 0) (hN : 0 < N) (hb : Begins 1 xs) (h : Rds z N n T xs 5 (appB z N E)) : Lvl z N n T xs E 5 :=
 let k := lvl4 hz hb (mul_of_app hN h hb.ne)
 ⟨fun e => absurd e (by omega), fun _ => h, fun _ => k.a4 (by omega), fun _ => k.a3 (by omega), fun _ => k.a2 (by omega), fun _ => k.a1 (by omega), k.a0⟩
theorem app_c (hb : Begins 6 xs) (h : Rds z N n T xs 6 (atomB z N E)) : RdC z N n T xs 6 (appB z N E) (appsB z N E) :=
 app_of_atom h (fun us hu => by
  obtain ⟨t, r, e, hf⟩ := hb us hu
  exact ⟨t, r, e, hf.2.2 (by omega)⟩)
theorem lvl6 (hz : z.fin.1 = 0) (hN : 0 < N) (hb : Begins 6 xs) (h : Rds z N n T xs 6 (atomB z N E)) : Lvl z N n T xs E 6 :=
 let k := lvl5 hz hN (hb.down (by omega)) (app_stop hz (app_c hb h))
 ⟨fun _ => h, fun _ => k.a5 (by omega), fun _ => k.a4 (by omega), fun _ => k.a3 (by omega), fun _ => k.a2 (by omega), fun _ => k.a1 (by omega), k.a0⟩
theorem begins_rp {l : Int} (hb : Begins l xs) : ∀ us, Ms xs us → ∃ t r, us = t :: r ∧ t.text ≠ s_rp := fun us hu => by
 obtain ⟨t, r, e, hf⟩ := hb us hu
 exact ⟨t, r, e, hf.1⟩
end
theorem in_lvl (hz : z.fin.1 = 0) (hN : 0 < N) {n m : Nat} {a : Tr} {E : List Tk → R Tr} {l : Int} (hl : l ≤ 6) (hb : Begins (levP a.kind a.name) (tk n a)) (hE : Rds z N m a (tk n a) 0 E) (h : Lvl z N m a (tk n a) E (levP a.kind a.name)) : Lvl z N m a (inP (tk n) a l) E l := by
 unfold inP
 split
 ·rename_i h1
  exact h.down h1
 ·have hp : Begins 6 ([40] :: tk n a ++ [[41]]) := (begins_key (by decide) 6 (by decide) (fun _ => by decide) (fun _ => by decide) : Begins 6 ([40] :: (tk n a ++ [[41]])))
  exact (lvl6 hz hN hp (atom_paren hz hE (begins_rp hb))).down hl
def Lv (z : Env) (N n : Nat) (E : List Tk → R Tr) (T : Tr) : Prop := Lvl z N (2 * n) T (tk n T) E (levP T.kind T.name) ∧ (T.kind = 8 → RdC z N (2 * n) T (tk n T) 6 (appB z N E) (appsB z N E))

theorem lv_step (hz : z.fin.1 = 0) (hN : 0 < N) {n : Nat} {E : List Tk → R Tr} (hE : ∀ a, Ge n a → Rds z N (2 * n) a (tk n a) 0 E) (ih : ∀ a, Ge n a → Lv z N n E a) (T : Tr) (hT : Ge (n + 1) T) : Lv z N (n + 1) E T := by
 have hbT := begins_any (n + 1) T hT
 have up : ∀ {xs : List (List UInt8)} {l : Int} {P : List Tk → R Tr}, Rds z N (2 * n + 1) T xs l P → Rds z N (2 * (n + 1)) T xs l P := fun h => h.le (by omega)
 have upC : ∀ {xs : List (List UInt8)} {l : Int} {P : List Tk → R Tr} {L : Nat → Tr → List Tk → R Tr}, RdC z N (2 * n + 1) T xs l P L → RdC z N (2 * (n + 1)) T xs l P L := fun h => h.le (by omega)
 have inl : ∀ a, Ge n a → ∀ l : Int, l ≤ 6 → Lvl z N (2 * n) a (inP (tk n) a l) E l := fun a ha l hl => in_lvl hz hN hl (begins_any n a ha) (hE a ha) (ih a ha).1
 have not8 : T.kind ≠ 8 → (T.kind = 8 → RdC z N (2 * (n + 1)) T (tk (n + 1) T) 6 (appB z N E) (appsB z N E)) := fun h h' => absurd h' h
 have hpos : ∀ a, Ge n a → 1 ≤ n := fun a ha => by
  cases n with
  | zero => exact ha.elim
  | succ n => omega
 rcases hT with ⟨hk, hx, hl, _⟩ | ⟨hk, hx, hl, hm⟩ | ⟨hk, hx, hl⟩ | ⟨hk, hx, hm, hl⟩ | ⟨hk, hx, hm, a, hl, ha⟩ | ⟨hk, hx, a, hl, ha⟩ | ⟨hk, hx, a, b, hl, ha, hb⟩ | ⟨hk, hm, hx, a, b, hl, ha, hb⟩ | ⟨hk, hm, hx, f, a, b, hl, hfk, hfx, hfm, hfl, _, ha, hb⟩ | ⟨hk, hx, a, b, c, hl, ha, hb, hc⟩ | ⟨hk, hx, a, b, c, d, e, hl, hc, hd', ha, hb, he⟩ | ⟨hk, hm, hx, a, b, hl, ha, hb⟩ | ⟨hk, hx, hm, a, r, e, cs, hl, hrk, hrx, hrm, hrl, ha, he, hcs⟩
 ·have e : tk (n + 1) T = numTk T.num := by simp [tk, hk]
  have lv : levP T.kind T.name = 6 := by simp [levP, hk]
  unfold Lv
  rw [lv] at hbT ⊢
  rw [e] at hbT ⊢
  exact ⟨lvl6 hz hN hbT (up (atom_num hk hx hl)), fun h => by omega⟩
 ·have e : tk (n + 1) T = [if T.num = 1 then [116, 114, 117, 101] else [102, 97, 108, 115, 101]] := by simp [tk, hk, leafTk]
  have lv : levP T.kind T.name = 6 := by simp [levP, hk]
  unfold Lv
  rw [lv] at hbT ⊢
  rw [e] at hbT ⊢
  exact ⟨lvl6 hz hN hbT (up (atom_bool hk hx hm hl)), fun h => by omega⟩
 ·rcases hk with hk | hk
  ·have e : tk (n + 1) T = [[40], [41]] := by simp [tk, hk, leafTk]
   have lv : levP T.kind T.name = 6 := by simp [levP, hk]
   unfold Lv
   rw [lv] at hbT ⊢
   rw [e] at hbT ⊢
   exact ⟨lvl6 hz hN hbT (up (atom_unit hk hx hl)), fun h => by omega⟩
  ·have e : tk (n + 1) T = [[91], [93]] := by simp [tk, hk, leafTk]
   have lv : levP T.kind T.name = 6 := by simp [levP, hk]
   unfold Lv
   rw [lv] at hbT ⊢
   rw [e] at hbT ⊢
   exact ⟨lvl6 hz hN hbT (up (atom_nil hk hx hl)), fun h => by omega⟩
 ·have e : tk (n + 1) T = [T.name] := by simp [tk, hk, leafTk]
  have lv : levP T.kind T.name = 6 := by simp [levP, hk]
  unfold Lv
  rw [lv] at hbT ⊢
  rw [e] at hbT ⊢
  exact ⟨lvl6 hz hN hbT (up (atom_name hk hx hm hl)), fun h => by omega⟩
 ·rcases hk with hk | hk
  ·have e : tk (n + 1) T = [[102, 110], T.name] ++ ([61, 62] :: tk n a) := by simp [tk, hk, hl]
   have lv : levP T.kind T.name = 0 := by simp [levP, hk]
   unfold Lv
   rw [lv, e]
   exact ⟨lvl0 (up (any_fn hz hk hx hm hl (hE a ha))), fun h => by omega⟩
  ·have e : tk (n + 1) T = [[100, 111], T.name] ++ inP (tk n) a 6 := by simp [tk, hk, hl]
   have lv : levP T.kind T.name = 5 := by simp [levP, hk]
   unfold Lv
   rw [lv] at hbT ⊢
   rw [e] at hbT ⊢
   exact ⟨lvl5 hz hN (hbT.down (by omega)) (up (app_do hk hx hm hl ((inl a ha 6 (by omega)).a6 (by omega)))), fun h => by omega⟩
 ·rcases hk with hk | hk
  ·have e : tk (n + 1) T = [[102, 115, 116]] ++ inP (tk n) a 6 := by simp [tk, hk, hl]
   have lv : levP T.kind T.name = 5 := by simp [levP, hk]
   unfold Lv
   rw [lv] at hbT ⊢
   rw [e] at hbT ⊢
   exact ⟨lvl5 hz hN (hbT.down (by omega)) (up (app_fst hk hx hl ((inl a ha 6 (by omega)).a6 (by omega)))), fun h => by omega⟩
  ·have e : tk (n + 1) T = [[115, 110, 100]] ++ inP (tk n) a 6 := by simp [tk, hk, hl]
   have lv : levP T.kind T.name = 5 := by simp [levP, hk]
   unfold Lv
   rw [lv] at hbT ⊢
   rw [e] at hbT ⊢
   exact ⟨lvl5 hz hN (hbT.down (by omega)) (up (app_snd hk hx hl ((inl a ha 6 (by omega)).a6 (by omega)))), fun h => by omega⟩
 ·rcases hk with hk | hk | hk | hk
  ·have e : tk (n + 1) T = (if a.kind = 8 then tk n a else inP (tk n) a 6) ++ inP (tk n) b 6 := by simp [tk, hk, hl]
   have lv : levP T.kind T.name = 5 := by simp [levP, hk]
   unfold Lv
   rw [lv] at hbT ⊢
   rw [e] at hbT ⊢
   have hA : RdC z N (2 * n) a (if a.kind = 8 then tk n a else inP (tk n) a 6) 6 (appB z N E) (appsB z N E) := by
    split
    ·rename_i h8
     exact (ih a ha).2 h8
    ·exact app_c (begins_in (begins_any n a ha) (by omega)) ((inl a ha 6 (by omega)).a6 (by omega))
   have hB := begins_in (l := 6) (begins_any n b hb) (by omega)
   have hC := upC (app_two hx hl hk hA ((inl b hb 6 (by omega)).a6 (by omega)) (fun us hu => by
    obtain ⟨t, r, e, hf⟩ := hB us hu
    exact ⟨t, r, e, (hf.2.2 (by omega)).1⟩))
   exact ⟨lvl5 hz hN (hbT.down (by omega)) (app_stop hz hC), fun _ => hC⟩
  ·have e : tk (n + 1) T = inP (tk n) a 1 ++ [[59]] ++ tk n b := by simp [tk, hk, hl]
   have lv : levP T.kind T.name = 0 := by simp [levP, hk]
   unfold Lv
   rw [lv, e]
   have hb1 : Begins 1 (inP (tk n) a 1 ++ [[59]] ++ tk n b) := by
    rw [List.append_assoc]
    exact (begins_in (begins_any n a ha) (by omega)).app _
   exact ⟨lvl0 (up (any_of_seq (seq_two hx hl hk ((inl a ha 1 (by omega)).a1 (by omega)) (hE b hb)) (six (by omega) hb1))), fun h => by omega⟩
  ·have e : tk (n + 1) T = ([40] :: tk n a) ++ ([44] :: tk n b) ++ [[41]] := by simp [tk, hk, hl]
   have lv : levP T.kind T.name = 6 := by simp [levP, hk]
   unfold Lv
   rw [lv] at hbT ⊢
   rw [e] at hbT ⊢
   exact ⟨lvl6 hz hN hbT (up (atom_pair hz hk hx hl (hE a ha) (hE b hb) (begins_rp (begins_any n a ha)))), fun h => by omega⟩
  ·have e : tk (n + 1) T = inP (tk n) a 3 ++ [[58, 58]] ++ inP (tk n) b 2 := by simp [tk, hk, hl]
   have lv : levP T.kind T.name = 2 := by simp [levP, hk]
   unfold Lv
   rw [lv] at hbT ⊢
   rw [e] at hbT ⊢
   have hC := cons_two hz hx hl hk (sum_stop hz ((inl a ha 3 (by omega)).a3 (by omega))) ((inl b hb 2 (by omega)).a2 (by omega))
   have hC2 : ConsR z N (2 * (n + 1)) T (inP (tk n) a 3 ++ [[58, 58]] ++ inP (tk n) b 2) E := fun us hu hl => by
    obtain ⟨U, hU, hR⟩ := hC us hu hl
    exact ⟨U, hU.le (by omega), hR⟩
   exact ⟨lvl2 hz (hbT.down (by omega)) hC2, fun h => by omega⟩
 ·have e : tk (n + 1) T = ([[108, 101, 116]] ++ [T.name] ++ ([61] :: tk n a)) ++ ([105, 110] :: tk n b) := by simp [tk, hk, hl, hm]
  have lv : levP T.kind T.name = 0 := by simp [levP, hk]
  unfold Lv
  rw [lv, e]
  exact ⟨lvl0 (up (any_let hz hk hx hm hl (hE a ha) (hE b hb))), fun h => by omega⟩
 ·have e : tk (n + 1) T = ([[108, 101, 116]] ++ [[114, 101, 99]] ++ [T.name] ++ [f.name] ++ ([61] :: tk n a)) ++ ([105, 110] :: tk n b) := by simp [tk, hk, hl, hm, kid0, hfl]
  have lv : levP T.kind T.name = 0 := by simp [levP, hk]
  unfold Lv
  rw [lv, e]
  exact ⟨lvl0 (any_letrec hz hk hx hm hl hfk hfx hfm hfl (hE a ha) (hE b hb)), fun h => by omega⟩
 ·have e : tk (n + 1) T = ([105, 102] :: tk n a) ++ ([116, 104, 101, 110] :: tk n b) ++ ([101, 108, 115, 101] :: tk n c) := by simp [tk, hk, hl]
  have lv : levP T.kind T.name = 0 := by simp [levP, hk]
  unfold Lv
  rw [lv, e]
  exact ⟨lvl0 (up (any_if hk hx hl (hE a ha) (hE b hb) (hE c hc))), fun h => by omega⟩
 ·have e' : tk (n + 1) T = ([99, 97, 115, 101] :: tk n a) ++ [[111, 102], [91], [93]] ++ ([61, 62] :: tk n b) ++ [[124], c.name, [58, 58], d.name] ++ ([61, 62] :: tk n e) ++ [[101, 110, 100]] := by simp [tk, hk, hl]
  have lv : levP T.kind T.name = 0 := by simp [levP, hk]
  unfold Lv
  rw [lv, e']
  have h1 := hpos a ha
  exact ⟨lvl0 (up (any_case hk hx hl hc hd' (by omega) (hE a ha) (hE b hb) (hE e he))), fun h => by omega⟩
 ·have e : tk (n + 1) T = opTk T.name (tk n) a b := by simp [tk, hk, hl]
  unfold Lv
  rw [e] at hbT ⊢
  refine ⟨?_, fun h => by omega⟩
  rcases hx with hx | hx | hx | hx | hx
  ·have lv : levP T.kind T.name = 3 := by simp [levP, hk, hx]
   rw [lv] at hbT ⊢
   have e2 : opTk T.name (tk n) a b = inP (tk n) a 3 ++ [[43]] ++ inP (tk n) b 4 := by simp [opTk, hx]
   rw [e2] at hbT ⊢
   exact lvl3 hz (hbT.down (by omega)) (upC (sum_two (.inl rfl) hx hm hl hk ((inl a ha 3 (by omega)).a3 (by omega)) (mul_stop hz ((inl b hb 4 (by omega)).a4 (by omega)))))
  ·have lv : levP T.kind T.name = 3 := by simp [levP, hk, hx]
   rw [lv] at hbT ⊢
   have e2 : opTk T.name (tk n) a b = inP (tk n) a 3 ++ [[45]] ++ inP (tk n) b 4 := by simp [opTk, hx]
   rw [e2] at hbT ⊢
   exact lvl3 hz (hbT.down (by omega)) (upC (sum_two (.inr rfl) hx hm hl hk ((inl a ha 3 (by omega)).a3 (by omega)) (mul_stop hz ((inl b hb 4 (by omega)).a4 (by omega)))))
  ·have lv : levP T.kind T.name = 4 := by simp [levP, hk, hx]
   rw [lv] at hbT ⊢
   have e2 : opTk T.name (tk n) a b = inP (tk n) a 4 ++ [[42]] ++ inP (tk n) b 5 := by simp [opTk, hx]
   rw [e2] at hbT ⊢
   exact lvl4 hz (hbT.down (by omega)) (upC (mul_two hx hm hl hk ((inl a ha 4 (by omega)).a4 (by omega)) ((inl b hb 5 (by omega)).a5 (by omega))))
  ·have lv : levP T.kind T.name = 1 := by simp [levP, hk, hx]
   rw [lv] at hbT ⊢
   have e2 : opTk T.name (tk n) a b = inP (tk n) a 2 ++ [[60]] ++ inP (tk n) b 2 := by simp [opTk, hx]
   rw [e2] at hbT ⊢
   exact lvl1 hz hbT (up (comp_two hz hx hm hl hk (.inr rfl) ((inl a ha 2 (by omega)).a2 (by omega)) ((inl b hb 2 (by omega)).a2 (by omega))))
  ·have lv : levP T.kind T.name = 1 := by simp [levP, hk, hx]
   rw [lv] at hbT ⊢
   have e2 : opTk T.name (tk n) a b = inP (tk n) a 2 ++ [[61, 61]] ++ inP (tk n) b 2 := by simp [opTk, hx]
   rw [e2] at hbT ⊢
   exact lvl1 hz hbT (up (comp_two hz hx hm hl hk (.inl rfl) ((inl a ha 2 (by omega)).a2 (by omega)) ((inl b hb 2 (by omega)).a2 (by omega))))
 ·have e' : tk (n + 1) T = ((if T.num = 1 then [115, 104, 97, 108, 108, 111, 119] else [104, 97, 110, 100, 108, 101]) :: tk n a) ++ [[119, 105, 116, 104]] ++ ([123] :: ([[114, 101, 116, 117, 114, 110], r.name] ++ ([61, 62] :: tk n e))) ++ cs.flatMap (fun q => [124] :: clauseTk (tk n) q) ++ [[125]] := by
   simp [tk, hk, hl, kid0, hrl]
  have lv : levP T.kind T.name = 0 := by simp [levP, hk]
  unfold Lv
  rw [lv, e']
  have h1 := hpos a ha
  refine ⟨lvl0 (any_handle hz hk hx hm hl hrk hrx hrm hrl (hE a ha) (hE e he) (fun q hq => ?_)), fun h => by omega⟩
  obtain ⟨k1, k2, k3, x, y, c, k4, k5, k6, k7⟩ := hcs q hq
  have e2 : clauseTk (tk n) q = [q.name, x.name, y.name] ++ ([61, 62] :: tk n c) := by simp [clauseTk, k4]
  rw [e2]
  exact clause_read (n := 2 * n) k1 k2 k3 k4 k5 k6 (by omega) (hE c k7)
theorem lv_all (hz : z.fin.1 = 0) (hN : 0 < N) : ∀ (n : Nat) {E : List Tk → R Tr}, (∀ m a, m < n → Ge m a → Rds z N (2 * m) a (tk m a) 0 E) → ∀ T, Ge n T → Lv z N n E T := by
 intro n
 induction n with
 | zero => intro E _ T h; exact h.elim
 | succ n ih =>
  intro E hE T hT
  exact lv_step hz hN (fun a ha => hE n a (by omega) ha) (ih (fun m a hm ha => hE m a (by omega) ha)) T hT
theorem expr_read (hz : z.fin.1 = 0) (hN : 0 < N) : ∀ (n : Nat) (T : Tr), Ge n T → ∀ k, n ≤ k → Rds z N (2 * n) T (tk n T) 0 (exprB z N k) := by
 intro n
 induction n using Nat.strongRecOn with
 | ind n ih =>
  intro T hT k hkn
  have hn : 1 ≤ n := by
   cases n with
   | zero => exact hT.elim
   | succ n => omega
  obtain ⟨k, rfl⟩ : ∃ m, k = m + 1 := ⟨k - 1, by omega⟩
  have h := (lv_all hz hN n (E := exprB z N k) (fun m a hm ha => ih m hm a ha k (by omega)) T hT).1.a0
  intro us hu hl
  obtain ⟨U, hU, hR⟩ := h us hu hl
  refine ⟨U, hU, fun r hs => ?_⟩
  simp only [exprB]
  rw [bnd_look hz]
  exact hR r hs
end Sy

namespace Sy
open Lx
variable {z : Env} {N : Nat}

theorem st_to {q : Tk} (hq : q.text = s_to) (r : List Tk) : StT 0 (hd z (q :: r)) := by
 show StT 0 q
 refine ⟨?_, fun _ => ?_, fun _ => ⟨?_, ?_⟩⟩ <;> rw [hq] <;> decide
theorem op_read (hz : z.fin.1 = 0) {n : Nat} {T a b : Tr} (hk : T.kind = 1) (hx : NmOK T.name) (hm : T.num = 0 ∨ T.num = 1) (hl : T.kids = [a, b]) (ha : Gt n a) (hb : Gt n b) (hn : n ≤ 200) :
  ReadsT z N (n + 1) T (itemTk (tk n) T) 0 (opB z N) := by
 have e0 : itemTk (tk n) T = [[111, 112]] ++ [if T.num = 1 then [111, 110, 99, 101] else [109, 97, 110, 121]] ++ [T.name] ++ ([58] :: tk n a) ++ ([61, 62] :: tk n b) := by simp [itemTk, hk, hl]
 rw [e0]
 intro us hu hN
 obtain ⟨u, v, rfl, h1, h2⟩ := Ms.app hu
 obtain ⟨t, _, rfl, g1, s, _, rfl, g2, x, _, rfl, g3, c, w1, rfl, g4, k1⟩ := h1
 obtain ⟨p, w2, rfl, g5, k2⟩ := h2
 obtain ⟨kx, ex⟩ := mt_name g3 hx.1 hx.2.1 hx.2.2.1
 have e4 : c.text = s_colon := mt_key g4 (by decide)
 have e5 : p.text = s_to := mt_key g5 (by decide)
 simp only [List.length_append, List.length_cons] at hN
 obtain ⟨U, hU, hR⟩ := typ_read (N := N) hz n a ha 200 hn w1 k1 (by omega)
 obtain ⟨V, hV, hR2⟩ := typ_read (N := N) hz n b hb 200 hn w2 k2 (by omega)
 have ee : ∀ r, t :: s :: x :: c :: w1 ++ p :: w2 ++ r = t :: (s :: (x :: (c :: (w1 ++ (p :: (w2 ++ r)))))) := fun r => by simp
 rcases hm with hm | hm
 ·rw [hm, if_neg (by omega)] at g2
  have e2 : s.text = w_many := mt_key g2 (by decide)
  refine ⟨.mk 1 t.pos x.text 0 [U, V], ⟨hk, ex.symm, hm, by rw [hl]; rfl, fun i h1 h2 => ?_⟩, fun r hs => ?_⟩
  ·simp only [hl, List.length_cons, List.length_nil] at h1
   obtain rfl | rfl : i = 0 ∨ i = 1 := by omega
   ·simp only [hl]; exact hU
   ·simp only [hl]; exact hV
  ·rw [ee]
   unfold opB
   rw [take_yes]
   simp only [bnd]
   rw [ite_no hz (by show s.text ≠ w_once; rw [e2]; decide), need_yes e2]
   simp only []
   rw [kind_yes kx]
   simp only []
   rw [need_yes e4]
   simp only []
   rw [hR _ (st_to e5 _)]
   simp only []
   rw [need_yes e5]
   simp only []
   rw [hR2 r hs]
 ·rw [hm, if_pos rfl] at g2
  have e2 : s.text = w_once := mt_key g2 (by decide)
  refine ⟨.mk 1 t.pos x.text 1 [U, V], ⟨hk, ex.symm, hm, by rw [hl]; rfl, fun i h1 h2 => ?_⟩, fun r hs => ?_⟩
  ·simp only [hl, List.length_cons, List.length_nil] at h1
   obtain rfl | rfl : i = 0 ∨ i = 1 := by omega
   ·simp only [hl]; exact hU
   ·simp only [hl]; exact hV
  ·rw [ee]
   unfold opB
   rw [take_yes]
   simp only [bnd]
   rw [ite_yes e2, kind_yes kx]
   simp only []
   rw [need_yes e4]
   simp only []
   rw [hR _ (st_to e5 _)]
   simp only []
   rw [need_yes e5]
   simp only []
   rw [hR2 r hs]
theorem def_read (hz : z.fin.1 = 0) {n : Nat} {T f a : Tr} (hk : T.kind = 2) (hx : NmOK T.name) (hm : T.num = 0 ∨ T.num = 1) (hl : T.kids = [f]) (hfk : f.kind = 7) (hfx : NmOK f.name) (hfm : f.num = 0) (hfl : f.kids = [a]) (ha : Ge n a) (hn : n ≤ 200) :
  Rds z N (2 * n + 2) T (itemTk (tk n) T) 0 (defB z N) := by
 intro us hu hN
 have fin : ∀ (t x d : Tk) (U : Tr) (m : Int), T.num = m → x.text = T.name → d.text = f.name → EqT (2 * n) a U → EqT (2 * n + 2) T (.mk 2 t.pos x.text m [fns [d] U]) := by
  intro t x d U m h1 h2 h3 hU
  refine ⟨hk, h2.symm, h1, by rw [hl]; rfl, fun i h1 h2 => ?_⟩
  have ei : i = 0 := by simp only [hl, List.length_singleton] at h1; omega
  subst ei
  simp only [hl]
  refine ⟨hfk, h3.symm, hfm, by simp only [List.getElem_cons_zero]; rw [hfl]; rfl, fun i h1 h2 => ?_⟩
  have ei : i = 0 := by simp only [List.getElem_cons_zero, hfl, List.length_singleton] at h1; omega
  subst ei
  simp only [List.getElem_cons_zero, hfl]
  exact hU
 rcases hm with hm | hm
 ·have e0 : itemTk (tk n) T = [[100, 101, 102]] ++ [T.name] ++ [f.name] ++ ([61] :: tk n a) := by simp [itemTk, hk, hl, hm, kid0, hfl]
  rw [e0] at hu
  obtain ⟨t, _, rfl, g1, x, _, rfl, g2, d, _, rfl, g3, c, w1, rfl, g4, k1⟩ := hu
  obtain ⟨kx, ex⟩ := mt_name g2 hx.1 hx.2.1 hx.2.2.1
  obtain ⟨kd, ed⟩ := mt_name g3 hfx.1 hfx.2.1 hfx.2.2.1
  have e4 : c.text = s_eq := mt_key g4 (by decide)
  have hck := mt_kind g4 (by decide) (.inl (by decide))
  simp only [List.length_cons] at hN
  obtain ⟨U, hU, hR⟩ := expr_read (N := N) hz (by omega) n a ha 200 hn w1 k1 (by omega)
  refine ⟨.mk 2 t.pos x.text 0 [fns [d] U], fin t x d U 0 hm ex ed hU, fun r hs => ?_⟩
  show defB z N (t :: (x :: (d :: (c :: (w1 ++ r))))) = _
  unfold defB bindB
  rw [take_yes]
  simp only [bnd]
  rw [ite_no hz (by exact not_rec ex hx), kind_yes kx]
  simp only []
  rw [names_one (N := N) hz kd (r := c :: (w1 ++ r)) hck.2 (by omega) (Nat.le_refl 1)]
  simp only []
  rw [need_yes e4]
  simp only []
  rw [hR r hs]
 ·have e0 : itemTk (tk n) T = [[100, 101, 102]] ++ [[114, 101, 99]] ++ [T.name] ++ [f.name] ++ ([61] :: tk n a) := by simp [itemTk, hk, hl, hm, kid0, hfl]
  rw [e0] at hu
  obtain ⟨t, _, rfl, g1, s, _, rfl, g0, x, _, rfl, g2, d, _, rfl, g3, c, w1, rfl, g4, k1⟩ := hu
  obtain ⟨kx, ex⟩ := mt_name g2 hx.1 hx.2.1 hx.2.2.1
  obtain ⟨kd, ed⟩ := mt_name g3 hfx.1 hfx.2.1 hfx.2.2.1
  have e2 : s.text = w_rec := mt_key g0 (by decide)
  have e4 : c.text = s_eq := mt_key g4 (by decide)
  have hck := mt_kind g4 (by decide) (.inl (by decide))
  simp only [List.length_cons] at hN
  obtain ⟨U, hU, hR⟩ := expr_read (N := N) hz (by omega) n a ha 200 hn w1 k1 (by omega)
  refine ⟨.mk 2 t.pos x.text 1 [fns [d] U], fin t x d U 1 hm ex ed hU, fun r hs => ?_⟩
  show defB z N (t :: (s :: (x :: (d :: (c :: (w1 ++ r)))))) = _
  unfold defB bindB
  rw [take_yes]
  simp only [bnd]
  rw [ite_yes e2, kind_yes kx]
  simp only []
  rw [names_one (N := N) hz kd (r := c :: (w1 ++ r)) hck.2 (by omega) (Nat.le_refl 1)]
  simp only []
  rw [need_yes e4]
  simp only []
  rw [hR r hs]
end Sy

namespace Sy
open Lx
variable {z : Env} {N : Nat}

theorem items_read (hz : z.fin.1 = 0) {m : Nat} {P : List Tk → R Tr} {St : Tk → Prop} {w : List UInt8} {L : Nat → List Tr → List Tk → R (List Tr)} {f : Tr → List (List UInt8)} (hL : ∀ n l ts, L (n + 1) l ts = bnd (lookB z ts) fun t _ => if t.text == w then bnd (P ts) fun a ts => L n (l ++ [a]) ts else .ok (l, ts))
  (hw : (w.head?.map isDig).getD false = false) (hwk : isWd w = true) (hSt : ∀ t : Tk, t.text = w → t.kind ≠ 1 ∧ t.kind ≠ 2 → St t) :
  ∀ (os : List Tr) (l : List Tr) (us : List Tk), (∀ q ∈ os, ∀ us, Ms (f q) us → us.length < N → ∃ U, EqT m q U ∧ ∀ r, St (hd z r) → P (us ++ r) = .ok (U, r)) → (∀ q ∈ os, ∃ ys, f q = w :: ys) → Ms (os.flatMap f) us → us.length < N →
  ∃ vs : List Tr, vs.length = os.length ∧ (∀ i (h : i < os.length) (h' : i < vs.length), EqT m os[i] vs[i]) ∧ ∀ p (r : List Tk), us.length < p → (hd z r).text ≠ w → St (hd z r) → L p l (us ++ r) = .ok (l ++ vs, r) := by
 intro os
 induction os with
 | nil =>
  intro l us _ _ hu _
  rw [show us = [] from hu]
  refine ⟨[], rfl, fun i h => by simp at h, fun p r hp hne hs => ?_⟩
  obtain ⟨p, rfl⟩ : ∃ k, p = k + 1 := ⟨p - 1, by omega⟩
  rw [hL, List.nil_append, bnd_look hz, if_neg (by simpa using hne)]
  simp
 | cons c os ih =>
  intro l us hP hW hu hN
  rw [List.flatMap_cons] at hu
  obtain ⟨u, v, rfl, h1, h2⟩ := Ms.app hu
  simp only [List.length_append] at hN
  obtain ⟨U, hU, hR⟩ := hP c (by simp) u h1 (by omega)
  obtain ⟨vs, v1, v2, v3⟩ := ih (l ++ [U]) v (fun q hq => hP q (by simp [hq])) (fun q hq => hW q (by simp [hq])) h2 (by omega)
  obtain ⟨ys, ey⟩ := hW c (by simp)
  rw [ey] at h1
  obtain ⟨t, w1, rfl, g1, g2⟩ := h1
  have et : t.text = w := mt_key g1 hw
  refine ⟨U :: vs, by simp [v1], fun i h h' => ?_, fun p r hp hne hs => ?_⟩
  ·cases i with
   | zero => exact hU
   | succ i => simpa using v2 i (by simpa using h) (by simpa using h')
  ·simp only [List.length_append, List.length_cons] at hp
   obtain ⟨p, rfl⟩ : ∃ k, p = k + 1 := ⟨p - 1, by omega⟩
   have hst : St (hd z (v ++ r)) := by
    cases os with
    | nil =>
     rw [show v = [] from h2]
     exact hs
    | cons c2 os =>
     rw [List.flatMap_cons] at h2
     obtain ⟨y2, ey2⟩ := hW c2 (by simp)
     rw [ey2] at h2
     obtain ⟨t2, w2, rfl, g5, g6⟩ := h2
     exact hSt t2 (mt_key g5 hw) (mt_kind g5 hw (.inr hwk))
   rw [hL, List.append_assoc, show lookB z (t :: w1 ++ (v ++ r)) = .ok (t, t :: w1 ++ (v ++ r)) from rfl]
   have eb : (t.text == w) = true := by simpa using et
   simp only [bnd, eb, if_true]
   rw [hR _ hst]
   simp only []
   rw [v3 p r (by omega) hne hs]
   simp
def Gp (n : Nat) (T : Tr) : Prop := T.kind = 0 ∧ T.name = [] ∧ ∃ os ds mn, T.kids = os ++ ds ++ [mn] ∧ T.num = os.length ∧ Ge n mn ∧
 (∀ q ∈ os, q.kind = 1 ∧ NmOK q.name ∧ (q.num = 0 ∨ q.num = 1) ∧ ∃ a b, q.kids = [a, b] ∧ Gt n a ∧ Gt n b) ∧
 (∀ q ∈ ds, q.kind = 2 ∧ NmOK q.name ∧ (q.num = 0 ∨ q.num = 1) ∧ ∃ f a, q.kids = [f] ∧ f.kind = 7 ∧ NmOK f.name ∧ f.num = 0 ∧ f.kids = [a] ∧ Ge n a)
theorem st_w {x : List UInt8} (h : x = w_op ∨ x = w_def ∨ x = w_main) (t : Tk) (e : t.text = x) : StT 0 t := by
 refine ⟨?_, fun _ => ?_, fun _ => ⟨?_, ?_⟩⟩ <;> rw [e] <;> rcases h with rfl | rfl | rfl <;> decide
theorem ste_w {x : List UInt8} (h : x = w_def ∨ x = w_main) (t : Tk) (e : t.text = x) (hk : t.kind ≠ 1 ∧ t.kind ≠ 2) : StE 0 t := by
 rcases h with rfl | rfl
 ·exact st_key (z := ⟨(0, 0), 0⟩) e hk 0 (by decide) (by decide) (by decide) (by decide) (by decide) (by decide) []
 ·exact st_key (z := ⟨(0, 0), 0⟩) e hk 0 (by decide) (by decide) (by decide) (by decide) (by decide) (by decide) []
theorem prog_read (hz : z.fin.1 = 0) {n : Nat} (hn : n ≤ 200) {T : Tr} (hT : Gp n T) (us : List Tk) (hu : Ms (tk (n + 1) T) us) (hN : us.length < N) : ∃ U, EqT (2 * n + 3) T U ∧ progB z N us = .ok (U, []) := by
 obtain ⟨hk, hx, os, ds, mn, hl, hm, hmn, hos, hds⟩ := hT
 have e0 : tk (n + 1) T = os.flatMap (itemTk (tk n)) ++ (ds.flatMap (itemTk (tk n)) ++ ([109, 97, 105, 110] :: [61] :: tk n mn)) := by
  have e1 : (os ++ ds ++ [mn]).dropLast = os ++ ds := by simp
  have e2 : (os ++ ds ++ [mn]).getLastD zT = mn := by simp
  simp only [tk, hk, hl, if_true, e1, e2]
  simp
 rw [e0] at hu
 obtain ⟨u, v, rfl, h1, h2⟩ := Ms.app hu
 obtain ⟨v1, v2, rfl, h3, h4⟩ := Ms.app h2
 obtain ⟨t, _, rfl, g1, c, w, rfl, g2, g3⟩ := h4
 have e1 : t.text = w_main := mt_key g1 (by decide)
 have htk := mt_kind g1 (by decide) (.inr (by decide))
 have e2 : c.text = s_eq := mt_key g2 (by decide)
 simp only [List.length_append, List.length_cons] at hN
 obtain ⟨O, o1, o2, o3⟩ := items_read (N := N) (m := 2 * n + 2) (P := opB z N) (St := StT 0) (w := w_op) (L := opsB z N) hz (fun _ _ _ => rfl) (by decide) (by decide) (fun t e _ => st_w (.inl rfl) t e) os [] u
  (fun q hq us hu hl => by
   obtain ⟨k1, k2, k3, a, b, k4, k5, k6⟩ := hos q hq
   obtain ⟨U, hU, hR⟩ := op_read (N := N) hz k1 k2 k3 k4 k5 k6 hn us hu hl
   exact ⟨U, hU.le (by omega), hR⟩)
  (fun q hq => by
   obtain ⟨k1, k2, k3, a, b, k4, _⟩ := hos q hq
   simp [itemTk, k1, k4, w_op]) h1 (by omega)
 obtain ⟨D, d1, d2, d3⟩ := items_read (N := N) (m := 2 * n + 2) (P := defB z N) (St := StE 0) (w := w_def) (L := defsB z N) hz (fun _ _ _ => rfl) (by decide) (by decide) (fun t e hk => ste_w (.inl rfl) t e hk) ds O v1
  (fun q hq us hu hl => by
   obtain ⟨k1, k2, k3, f, a, k4, k5, k6, k7, k8, k9⟩ := hds q hq
   exact def_read (N := N) hz k1 k2 k3 k4 k5 k6 k7 k8 k9 hn us hu hl)
  (fun q hq => by
   obtain ⟨k1, k2, k3, f, a, k4, _⟩ := hds q hq
   rcases k3 with k3 | k3 <;> simp [itemTk, k1, k4, k3, w_def]) h3 (by omega)
 obtain ⟨M, hM, hR⟩ := expr_read (N := N) hz (by omega) n mn hmn 200 hn w g3 (by omega)
 have hend : StE 0 (hd z []) := by
  show StE 0 (endTk z)
  refine ⟨fun _ => rfl, fun _ => ?_, fun _ => ⟨?_, ?_⟩, fun _ => ?_, fun _ => ⟨?_, ?_⟩, fun _ => ?_⟩ <;> (intro h; cases h)
 have hR0 := hR [] hend
 rw [List.append_nil] at hR0
 have hdm : ∀ r, StT 0 (hd z (v1 ++ (t :: r))) ∧ (hd z (v1 ++ (t :: r))).text ≠ w_op := fun r => by
  cases ds with
  | nil =>
   rw [show v1 = [] from h3]
   exact ⟨st_w (.inr (.inr rfl)) t e1, by show t.text ≠ w_op; rw [e1]; decide⟩
  | cons q ds =>
   rw [List.flatMap_cons] at h3
   obtain ⟨k1, k2, k3, f, a, k4, _⟩ := hds q (by simp)
   obtain ⟨ys, ey⟩ : ∃ ys, itemTk (tk n) q = w_def :: ys := by rcases k3 with k3 | k3 <;> simp [itemTk, k1, k4, k3, w_def]
   rw [ey] at h3
   obtain ⟨t2, w2, rfl, g5, g6⟩ := h3
   have e5 : t2.text = w_def := mt_key g5 (by decide)
   exact ⟨st_w (.inr (.inl rfl)) t2 e5, by show t2.text ≠ w_op; rw [e5]; decide⟩
 refine ⟨.mk 0 0 [] O.length (O ++ D ++ [M]), ⟨hk, hx, by show T.num = (O.length : Int); rw [hm, o1], ?_, fun i i1 i2 => ?_⟩, ?_⟩
 ·rw [hl]
  simp [Tr.kids, o1, d1]
 ·have ek : (Tr.mk 0 0 [] O.length (O ++ D ++ [M])).kids = O ++ D ++ [M] := rfl
  simp only [hl, ek] at i1 i2 ⊢
  simp only [List.length_append, List.length_singleton] at i1 i2
  by_cases c1 : i < os.length
  ·rw [List.getElem_append_left (by simp; omega), List.getElem_append_left c1, List.getElem_append_left (by simp; omega), List.getElem_append_left (by omega)]
   exact o2 i c1 (by omega)
  ·by_cases c2 : i < os.length + ds.length
   ·rw [List.getElem_append_left (by simp; omega), List.getElem_append_right (by omega), List.getElem_append_left (by simp; omega), List.getElem_append_right (by omega)]
    simp only [o1]
    exact d2 (i - os.length) (by omega) (by omega)
   ·rw [List.getElem_append_right (by simp; omega), List.getElem_append_right (by simp; omega)]
    simp only [List.getElem_singleton]
    exact hM.le (by omega)
 ·unfold progB
  rw [o3 N (v1 ++ (t :: c :: w)) (by omega) (hdm _).2 (hdm _).1]
  simp only [bnd, List.nil_append]
  rw [d3 N (t :: c :: w) (by omega) (by show t.text ≠ w_def; rw [e1]; decide) (ste_w (.inr rfl) t e1 htk)]
  simp only []
  rw [need_yes e1]
  simp only []
  rw [need_yes e2]
  simp only []
  rw [hR0]
  simp only []
  unfold kindB
  rw [look_hd hz]
  rfl
end Sy
end Go.Proofs.YtoajnlhegallpaaGreatDoor
