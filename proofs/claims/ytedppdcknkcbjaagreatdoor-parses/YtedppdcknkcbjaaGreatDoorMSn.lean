/-
  How a list of tokens is read into a tree by a reader that stops at its first fault, said by plain functions; no program is named here.
  The two readers of tokens come to the same: plain laws, no program is named here.
  The two readers of tokens come to the same, function by function: plain laws, no program is named here.
  The two readers of types come to the same: plain laws, no program is named here.
  The two readers of types, at every depth, come to the same; parameters, lists, brackets: plain laws, no program is named here.
  The two readers of expressions come to the same: parameters, lists, brackets, atoms: plain laws, no program is named here.
  The two readers of expressions come to the same: atoms, applications, products, sums, lists, comparisons: plain laws, no program is named here.
  The two readers of expressions come to the same: lets, functions, choices, cases, handlers, at every depth: plain laws, no program is named here.
  The two readers of expressions come to the same: lets, functions, choices: plain laws, no program is named here.
  The two readers of expressions come to the same: cases: plain laws, no program is named here.
  The two readers of expressions come to the same: handlers, every expression at every depth: plain laws, no program is named here.
  The reader that keeps its fault and the reader that stops at it come to the same, for every row of tokens: plain laws, no program is named here.
  Of every row of tokens the reader that keeps its fault and the reader that stops at it tell the same tree, or the same fault: plain laws, no program is named here.
  How much a reader has still to read; it never grows: plain laws, no program is named here.
  How much a reader of expressions has still to read; it never grows: plain laws, no program is named here.
  Trees that may have been read: what stands where, how many nodes there are, how high they stand; no program is named here.
  What a reader reads is a tree that may have been read: types.
  What a reader reads is a tree that may have been read: expressions and programs.
  What a reader reads is a tree that may have been read: programs.
  Tokens as the lexer makes them; what is read of them without a fault may have been read.
-/
import Derived.Test.YtedppdcknkcbjaaGreatDoorMBa
set_option linter.unusedVariables false
set_option linter.unusedSimpArgs false
namespace Go.Proofs.YtedppdcknkcbjaaGreatDoor
namespace Sy
open Lx

abbrev R (α : Type) := Except (Nat × Nat) (α × List Tk)
def bnd {α β : Type} (x : R α) (f : α → List Tk → R β) : R β :=
  match x with
  | .error e => .error e
  | .ok (a, ts) => f a ts

section B
variable (z : Env) (N : Nat)

def lookB (ts : List Tk) : R Tk :=
  match ts with
  | t :: r => .ok (t, t :: r)
  | [] => if z.fin.1 = 0 then .ok (endTk z, []) else .error z.fin
def iteB {α : Type} (x : List UInt8) (ts : List Tk) (yes no : List Tk → R α) : R α := bnd (lookB z ts) fun t _ => if t.text == x then yes ts.tail else no ts
def needB (x : List UInt8) (ts : List Tk) : R Unit := bnd (lookB z ts) fun t _ => if t.text == x then .ok ((), ts.tail) else .error (4, t.pos)
def kindB (k : Nat) (ts : List Tk) : R Tk := bnd (lookB z ts) fun t _ => if t.kind == k then .ok (t, ts.tail) else .error (4, t.pos)
def takeB (ts : List Tk) : R Tk := bnd (lookB z ts) fun t _ => .ok (t, ts.tail)
def namedB (ts : List Tk) : R Tr := bnd (kindB z 2 ts) fun t ts => .ok (nm 23 t.pos t.text [], ts)
def namesB (least : Nat) : Nat → List Tk → List Tk → R (List Tk)
  | 0, _, ts => bnd (lookB z ts) fun _ _ => .error (99, 0)
  | n + 1, l, ts =>
    if l.length < least then bnd (kindB z 2 ts) fun t ts => namesB least n (l ++ [t]) ts
    else bnd (lookB z ts) fun t _ => if t.kind == 2 then bnd (kindB z 2 ts) fun t ts => namesB least n (l ++ [t]) ts else .ok (l, ts)
def fns (l : List Tk) (b : Tr) : Tr := l.foldr (fun t b => nm 7 t.pos t.text [b]) b

/- types -/
def rowB : Nat → List Tr → List Tk → R (List Tr)
  | 0, _, ts => bnd (lookB z ts) fun _ _ => .error (99, 0)
  | n + 1, l, ts => bnd (namedB z ts) fun x ts => iteB z s_comma ts (fun ts => rowB n (l ++ [x]) ts) (fun ts => .ok (l ++ [x], ts))
def listsB : Nat → Tr → List Tk → R Tr
  | 0, _, ts => bnd (lookB z ts) fun _ _ => .error (99, 0)
  | n + 1, a, ts => iteB z w_list ts (fun ts => listsB n (nd 27 a.pos [a]) ts) (fun ts => .ok (a, ts))
def tatomB (T : List Tk → R Tr) (ts : List Tk) : R Tr :=
  bnd (lookB z ts) fun t _ =>
    if t.text == s_lp then bnd (T ts.tail) fun a ts => bnd (needB z s_rp ts) fun _ ts => .ok (a, ts)
    else if t.text == w_int then .ok (nd 24 t.pos [], ts.tail)
    else if t.text == w_bool then .ok (nd 25 t.pos [], ts.tail)
    else if t.text == w_unit then .ok (nd 26 t.pos [], ts.tail)
    else .error (4, t.pos)
def someB (T : List Tk → R Tr) (ts : List Tk) : R Tr := bnd (tatomB z T ts) fun a ts => listsB z N a ts
def pairB (T : List Tk → R Tr) : Nat → List Tk → R Tr
  | 0, ts => bnd (lookB z ts) fun _ _ => .error (99, 0)
  | n + 1, ts => bnd (someB z N T ts) fun a ts => iteB z s_star ts (fun ts => bnd (pairB T n ts) fun b ts => .ok (nd 28 a.pos [a, b], ts)) (fun ts => .ok (a, ts))
def typBodyB (T : List Tk → R Tr) (ts : List Tk) : R Tr :=
  bnd (pairB z N T N ts) fun a ts =>
    iteB z s_minus ts
      (fun ts => bnd (needB z s_lb ts) fun _ ts => bnd (rowB z N [] ts) fun l ts => bnd (needB z s_rb ts) fun _ ts => bnd (needB z s_arrow ts) fun _ ts => bnd (T ts) fun b ts => .ok (nd 29 a.pos ([a, b] ++ l), ts))
      (fun ts => iteB z s_arrow ts (fun ts => bnd (T ts) fun b ts => .ok (nd 29 a.pos [a, b], ts)) (fun ts => .ok (a, ts)))
def typB : Nat → List Tk → R Tr
  | 0, ts => bnd (lookB z ts) fun t _ => .error (5, t.pos)
  | k + 1, ts => bnd (lookB z ts) fun _ _ => typBodyB z N (typB k) ts

/- expressions -/
def squaresB (E : List Tk → R Tr) : Nat → List Tr → List Tk → R (List Tr)
  | 0, _, ts => bnd (lookB z ts) fun _ _ => .error (99, 0)
  | n + 1, l, ts => bnd (E ts) fun a ts => iteB z s_comma ts (fun ts => squaresB E n (l ++ [a]) ts) (fun ts => .ok (l ++ [a], ts))
def squareB (E : List Tk → R Tr) (p : Nat) (ts : List Tk) : R Tr :=
  iteB z s_rs ts (fun ts => .ok (nd 15 p [], ts)) (fun ts => bnd (squaresB z E N [] ts) fun l ts => bnd (needB z s_rs ts) fun _ ts => .ok (consUp l (nd 15 p []), ts))
def roundB (E : List Tk → R Tr) (p : Nat) (ts : List Tk) : R Tr :=
  iteB z s_rp ts (fun ts => .ok (nd 5 p [], ts))
    (fun ts => bnd (E ts) fun a ts => iteB z s_comma ts (fun ts => bnd (E ts) fun b ts => bnd (needB z s_rp ts) fun _ ts => .ok (nd 12 p [a, b], ts)) (fun ts => bnd (needB z s_rp ts) fun _ ts => .ok (a, ts)))
def beginsB (t : Tk) : Bool := t.kind == 2 || t.kind == 1 || t.text == s_tilde || t.text == w_true || t.text == w_false || t.text == s_lp || t.text == s_ls
def atomB (E : List Tk → R Tr) (ts : List Tk) : R Tr :=
  bnd (lookB z ts) fun t _ =>
    if t.kind == 2 then .ok (nm 6 t.pos t.text [], ts.tail)
    else if t.kind == 1 then .ok (.mk 3 t.pos [] t.num [], ts.tail)
    else if t.text == s_tilde then bnd (kindB z 1 ts.tail) fun u ts => .ok (.mk 3 t.pos [] (-u.num) [], ts)
    else if t.text == w_true then .ok (.mk 4 t.pos [] 1 [], ts.tail)
    else if t.text == w_false then .ok (nd 4 t.pos [], ts.tail)
    else if t.text == s_lp then roundB z E t.pos ts.tail
    else if t.text == s_ls then squareB z N E t.pos ts.tail
    else .error (4, t.pos)
def appsB (E : List Tk → R Tr) : Nat → Tr → List Tk → R Tr
  | 0, _, ts => bnd (lookB z ts) fun _ _ => .error (99, 0)
  | n + 1, a, ts => bnd (lookB z ts) fun t _ => if beginsB t then bnd (atomB z N E ts) fun b ts => appsB E n (nd 8 a.pos [a, b]) ts else .ok (a, ts)
def appB (E : List Tk → R Tr) (ts : List Tk) : R Tr :=
  bnd (lookB z ts) fun t _ =>
    if t.text == w_do then bnd (kindB z 2 ts.tail) fun x ts => bnd (atomB z N E ts) fun a ts => .ok (nm 19 t.pos x.text [a], ts)
    else if t.text == w_fst then bnd (atomB z N E ts.tail) fun a ts => .ok (nd 13 t.pos [a], ts)
    else if t.text == w_snd then bnd (atomB z N E ts.tail) fun a ts => .ok (nd 14 t.pos [a], ts)
    else bnd (atomB z N E ts) fun a ts => appsB z N E N a ts
def mulsB (E : List Tk → R Tr) : Nat → Tr → List Tk → R Tr
  | 0, _, ts => bnd (lookB z ts) fun _ _ => .error (99, 0)
  | n + 1, a, ts => iteB z s_star ts (fun ts => bnd (appB z N E ts) fun b ts => mulsB E n (op2 s_star a b) ts) (fun ts => .ok (a, ts))
def mulB (E : List Tk → R Tr) (ts : List Tk) : R Tr := bnd (appB z N E ts) fun a ts => mulsB z N E N a ts
def sumsB (E : List Tk → R Tr) : Nat → Tr → List Tk → R Tr
  | 0, _, ts => bnd (lookB z ts) fun _ _ => .error (99, 0)
  | n + 1, a, ts =>
    bnd (lookB z ts) fun t _ =>
      if t.text == s_plus || t.text == s_minus then bnd (mulB z N E ts.tail) fun b ts => sumsB E n (op2 t.text a b) ts
      else .ok (a, ts)
def sumB (E : List Tk → R Tr) (ts : List Tk) : R Tr := bnd (mulB z N E ts) fun a ts => sumsB z N E N a ts
def consB (E : List Tk → R Tr) : Nat → List Tk → R Tr
  | 0, ts => bnd (lookB z ts) fun _ _ => .error (99, 0)
  | n + 1, ts => bnd (sumB z N E ts) fun a ts => iteB z s_cons ts (fun ts => bnd (consB E n ts) fun b ts => .ok (nd 16 a.pos [a, b], ts)) (fun ts => .ok (a, ts))
def compB (E : List Tk → R Tr) (ts : List Tk) : R Tr :=
  bnd (consB z N E N ts) fun a ts =>
    bnd (lookB z ts) fun t _ =>
      if t.text == s_eqeq || t.text == s_lt then bnd (consB z N E N ts.tail) fun b ts => .ok (op2 t.text a b, ts)
      else .ok (a, ts)
def seqB (E : List Tk → R Tr) (ts : List Tk) : R Tr :=
  bnd (compB z N E ts) fun a ts => iteB z s_semi ts (fun ts => bnd (E ts) fun b ts => .ok (nd 10 a.pos [a, b], ts)) (fun ts => .ok (a, ts))
/-- A def or a let, up to what its name stands for: number, name, function. -/
def bindB (E : List Tk → R Tr) (least : Nat) (ts : List Tk) : R (Int × List UInt8 × Tr) :=
  iteB z w_rec ts
    (fun ts => bnd (kindB z 2 ts) fun x ts => bnd (namesB z 1 N [] ts) fun l ts => bnd (needB z s_eq ts) fun _ ts => bnd (E ts) fun b ts => .ok ((1, x.text, fns l b), ts))
    (fun ts => bnd (kindB z 2 ts) fun x ts => bnd (namesB z least N [] ts) fun l ts => bnd (needB z s_eq ts) fun _ ts => bnd (E ts) fun b ts => .ok ((0, x.text, fns l b), ts))
def letB (E : List Tk → R Tr) (ts : List Tk) : R Tr :=
  bnd (takeB z ts) fun t ts => bnd (bindB z N E 0 ts) fun d ts => bnd (needB z w_in ts) fun _ ts => bnd (E ts) fun b ts => .ok (.mk 9 t.pos d.2.1 d.1 [d.2.2, b], ts)
def fnB (E : List Tk → R Tr) (ts : List Tk) : R Tr :=
  bnd (takeB z ts) fun t ts => bnd (namesB z 1 N [] ts) fun l ts => bnd (needB z s_to ts) fun _ ts => bnd (E ts) fun b ts => .ok ((fns l b).at t.pos, ts)
def ifB (E : List Tk → R Tr) (ts : List Tk) : R Tr :=
  bnd (takeB z ts) fun t ts => bnd (E ts) fun a ts => bnd (needB z w_then ts) fun _ ts => bnd (E ts) fun b ts => bnd (needB z w_else ts) fun _ ts => bnd (E ts) fun c ts => .ok (nd 11 t.pos [a, b, c], ts)
def casesB (E : List Tk → R Tr) (ts : List Tk) : R Tr :=
  bnd (takeB z ts) fun t ts => bnd (E ts) fun e ts => bnd (needB z w_of ts) fun _ ts => bnd (needB z s_ls ts) fun _ ts => bnd (needB z s_rs ts) fun _ ts => bnd (needB z s_to ts) fun _ ts =>
    bnd (E ts) fun a ts => bnd (needB z s_bar ts) fun _ ts => bnd (namedB z ts) fun x ts => bnd (needB z s_cons ts) fun _ ts => bnd (namedB z ts) fun y ts => bnd (needB z s_to ts) fun _ ts =>
    bnd (E ts) fun b ts => bnd (needB z w_end ts) fun _ ts => .ok (nd 17 t.pos [e, a, x, y, b], ts)
def retB (E : List Tk → R Tr) (ts : List Tk) : R Tr :=
  bnd (lookB z ts) fun t _ => bnd (needB z w_return ts) fun _ ts => bnd (kindB z 2 ts) fun x ts => bnd (needB z s_to ts) fun _ ts => bnd (E ts) fun b ts => .ok (nm 21 t.pos x.text [b], ts)
def clauseB (E : List Tk → R Tr) (ts : List Tk) : R Tr :=
  bnd (kindB z 2 ts) fun o ts => bnd (namedB z ts) fun y ts => bnd (namedB z ts) fun k ts => bnd (needB z s_to ts) fun _ ts => bnd (E ts) fun c ts => .ok (nm 22 o.pos o.text [y, k, c], ts)
def clausesB (E : List Tk → R Tr) : Nat → List Tr → List Tk → R (List Tr)
  | 0, _, ts => bnd (lookB z ts) fun _ _ => .error (99, 0)
  | n + 1, l, ts => iteB z s_bar ts (fun ts => bnd (clauseB z E ts) fun c ts => clausesB E n (l ++ [c]) ts) (fun ts => .ok (l, ts))
def handleB (E : List Tk → R Tr) (ts : List Tk) : R Tr :=
  bnd (takeB z ts) fun t ts => bnd (E ts) fun e ts => bnd (needB z w_with ts) fun _ ts => bnd (needB z s_lb ts) fun _ ts => bnd (retB z E ts) fun r ts =>
    bnd (clausesB z E N [e, r] ts) fun l ts => bnd (needB z s_rb ts) fun _ ts => .ok (.mk 20 t.pos [] (if t.text == w_shallow then 1 else 0) l, ts)
def anyB (E : List Tk → R Tr) (ts : List Tk) : R Tr :=
  bnd (lookB z ts) fun t _ =>
    if t.text == w_let then letB z N E ts
    else if t.text == w_fn then fnB z N E ts
    else if t.text == w_if then ifB z E ts
    else if t.text == w_case then casesB z E ts
    else if t.text == w_handle || t.text == w_shallow then handleB z N E ts
    else seqB z N E ts
def exprB : Nat → List Tk → R Tr
  | 0, ts => bnd (lookB z ts) fun t _ => .error (5, t.pos)
  | k + 1, ts => bnd (lookB z ts) fun _ _ => anyB z N (exprB k) ts

/- programs -/
def opB (ts : List Tk) : R Tr :=
  bnd (takeB z ts) fun t ts =>
    iteB z w_once ts
      (fun ts => bnd (kindB z 2 ts) fun x ts => bnd (needB z s_colon ts) fun _ ts => bnd (typB z N 200 ts) fun a ts => bnd (needB z s_to ts) fun _ ts => bnd (typB z N 200 ts) fun b ts => .ok (.mk 1 t.pos x.text 1 [a, b], ts))
      (fun ts => bnd (needB z w_many ts) fun _ ts => bnd (kindB z 2 ts) fun x ts => bnd (needB z s_colon ts) fun _ ts => bnd (typB z N 200 ts) fun a ts => bnd (needB z s_to ts) fun _ ts => bnd (typB z N 200 ts) fun b ts => .ok (.mk 1 t.pos x.text 0 [a, b], ts))
def opsB : Nat → List Tr → List Tk → R (List Tr)
  | 0, _, ts => bnd (lookB z ts) fun _ _ => .error (99, 0)
  | n + 1, l, ts => bnd (lookB z ts) fun t _ => if t.text == w_op then bnd (opB z N ts) fun a ts => opsB n (l ++ [a]) ts else .ok (l, ts)
def defB (ts : List Tk) : R Tr := bnd (takeB z ts) fun t ts => bnd (bindB z N (exprB z N 200) 1 ts) fun d ts => .ok (.mk 2 t.pos d.2.1 d.1 [d.2.2], ts)
def defsB : Nat → List Tr → List Tk → R (List Tr)
  | 0, _, ts => bnd (lookB z ts) fun _ _ => .error (99, 0)
  | n + 1, l, ts => bnd (lookB z ts) fun t _ => if t.text == w_def then bnd (defB z N ts) fun a ts => defsB n (l ++ [a]) ts else .ok (l, ts)
def progB (ts : List Tk) : R Tr :=
  bnd (opsB z N N [] ts) fun o ts => bnd (defsB z N N o ts) fun d ts => bnd (needB z w_main ts) fun _ ts => bnd (needB z s_eq ts) fun _ ts =>
    bnd (exprB z N 200 ts) fun e ts => bnd (kindB z 0 ts) fun _ ts => .ok (.mk 0 0 [] o.length (d ++ [e]), ts)
def parseB (ts : List Tk) : Tr × (Nat × Nat) :=
  match progB z N ts with
  | .ok (a, _) => (a, (0, 0))
  | .error e => (zT, e)
end B
end Sy
end Go.Proofs.YtedppdcknkcbjaaGreatDoor

namespace Go.Proofs.YtedppdcknkcbjaaGreatDoor
namespace Sy
open Lx

/-- A word or a sign that no name is written like. -/
def Key (x : List UInt8) : Prop := x ≠ [] ∧ ∀ t : Tk, t.kind = 2 → (∃ c r, t.text = c :: r ∧ isLet c = true) → isWd t.text = false → t.text ≠ x
/-- A token as the lexer makes it. -/
def Gd (t : Tk) : Prop := (t.kind = 1 ∧ t.text = []) ∨ (t.kind = 2 ∧ (∃ c r, t.text = c :: r ∧ isLet c = true) ∧ isWd t.text = false) ∨ t.kind = 3 ∨ t.kind = 4

theorem key_word {x : List UInt8} (h : isWd x = true) (h2 : x ≠ []) : Key x := ⟨h2, fun t _ _ hw e => by rw [e, h] at hw; cases hw⟩
theorem key_sign {c : UInt8} {r : List UInt8} (h : isLet c = false) : Key (c :: r) := ⟨by simp, fun t _ hl _ e => by
  obtain ⟨d, q, h1, h2⟩ := hl
  rw [e] at h1
  simp only [List.cons.injEq] at h1
  rw [← h1.1, h] at h2
  cases h2⟩

/-- The state of the one reader fits what the other has still to read. -/
def Fit (z : Env) (s : RS) (ts : List Tk) : Prop :=
  match ts with
  | t :: r => s = ⟨t, r, (0, 0)⟩
  | [] => if z.fin.1 = 0 then s = ⟨endTk z, [], (0, 0)⟩ else s.f = z.fin

/-- Both answers fit. -/
def Ans {α : Type} (z : Env) (a : α × RS) (b : R α) : Prop :=
  match b with
  | .ok (x, ts) => (∀ t ∈ ts, Gd t) ∧ Fit z a.2 ts ∧ (okA a.2 = true → a.1 = x)
  | .error e => a.2.f = e ∧ e.1 ≠ 0

/-- A reader that does nothing behind a fault. -/
def Keeps {α : Type} (g : RS → α × RS) : Prop := ∀ s, okA s = false → (g s).2.f = s.f
def Both {α : Type} (z : Env) (g : RS → α × RS) (b : List Tk → R α) : Prop := Keeps g ∧ ∀ s ts, (∀ t ∈ ts, Gd t) → Fit z s ts → Ans z (g s) (b ts)

section
variable {z : Env}

theorem okA_false {s : RS} (h : s.f.1 ≠ 0) : okA s = false := by simp [okA, h]
theorem okA_ne {s : RS} (h : okA s = false) : s.f.1 ≠ 0 := by simpa [okA] using h

theorem fit_bad {s : RS} (h : Fit z s []) (hz : z.fin.1 ≠ 0) : okA s = false ∧ s.f = z.fin := by
  simp only [Fit, hz, if_false] at h
  exact ⟨okA_false (by rw [h]; exact hz), h⟩

/-- What is looked at: a fault, or a token that both see. -/
theorem look_cases {s : RS} {ts : List Tk} (hg : ∀ t ∈ ts, Gd t) (h : Fit z s ts) :
    (lookB z ts = .error s.f ∧ okA s = false) ∨
    (lookB z ts = .ok (s.t, ts) ∧ okA s = true ∧ s.f = (0, 0) ∧ (s.t.kind ≠ 0 → Fit z (nextA z s) ts.tail ∧ ∀ t ∈ ts.tail, Gd t) ∧ (Gd s.t ∨ (s.t.kind = 0 ∧ s.t.text = []))) := by
  cases ts with
  | cons t r =>
    simp only [Fit] at h
    subst h
    refine .inr ⟨rfl, rfl, rfl, fun _ => ⟨?_, fun x hx => hg x (by simp at hx; simp [hx])⟩, .inl (hg t (by simp))⟩
    cases r with
    | cons t2 r2 => rfl
    | nil => by_cases hz : z.fin.1 = 0 <;> simp [Fit, nextA, okA, hz]
  | nil =>
    by_cases hz : z.fin.1 = 0
    · simp only [Fit, hz, if_true] at h
      subst h
      exact .inr ⟨by simp [lookB, hz], rfl, rfl, fun hk => absurd rfl hk, .inr ⟨rfl, rfl⟩⟩
    · obtain ⟨h1, h2⟩ := fit_bad h hz
      exact .inl ⟨by simp [lookB, hz, h2], h1⟩

theorem is_of {s : RS} {x : List UInt8} (hx : Key x) (ho : okA s = true) (hg : Gd s.t ∨ (s.t.kind = 0 ∧ s.t.text = [])) : isA x s = (s.t.text == x) := by
  unfold isA
  rw [ho, Bool.true_and]
  rcases hg with (⟨h1, h2⟩ | ⟨h1, h2, h3⟩ | h1 | h1) | ⟨h1, h2⟩
  · have : (s.t.text == x) = false := by rw [h2, beq_eq_false_iff_ne]; exact fun e => hx.1 e.symm
    simp [this]
  · have : (s.t.text == x) = false := by rw [beq_eq_false_iff_ne]; exact hx.2 _ h1 h2 h3
    simp [this]
  · simp [h1]
  · simp [h1]
  · have : (s.t.text == x) = false := by rw [h2, beq_eq_false_iff_ne]; exact fun e => hx.1 e.symm
    simp [this]
theorem is_kind {s : RS} {x : List UInt8} (h : isA x s = true) : s.t.kind ≠ 0 ∧ okA s = true := by
  simp only [isA, Bool.and_eq_true, Bool.or_eq_true, beq_iff_eq] at h
  obtain ⟨⟨h1, h2⟩, _⟩ := h
  exact ⟨by rcases h2 with h2 | h2 <;> omega, h1⟩
theorem is_bad {s : RS} {x : List UInt8} (h : okA s = false) : isA x s = false := by simp [isA, h]

theorem next_bad {s : RS} (h : okA s = false) : nextA z s = s := by simp [nextA, h]
theorem no_bad {s : RS} (h : okA s = false) : noA s = s := by simp [noA, h]
theorem must_bad {s : RS} {x : List UInt8} (h : okA s = false) : mustA z x s = s := by simp [mustA, is_bad h, no_bad h]
theorem has_bad {s : RS} {x : List UInt8} (h : okA s = false) : hasA z x s = s := by simp [hasA, is_bad h]
theorem name_bad {s : RS} (h : okA s = false) : nameA z s = (([], 0), s) := by simp [nameA, isNameA, h, no_bad h]

/-- One step of both, in two ways: at a fault; or at a token. -/
theorem bnd_ok {α β : Type} (a : α) (ts : List Tk) (f : α → List Tk → R β) : bnd (.ok (a, ts)) f = f a ts := rfl
theorem bnd_err {α β : Type} (e : Nat × Nat) (f : α → List Tk → R β) : bnd (.error e) f = .error e := rfl

theorem ans_look {α : Type} {g : α × RS} {s : RS} {ts : List Tk} {f : Tk → List Tk → R α} (hg : ∀ t ∈ ts, Gd t) (h : Fit z s ts) (hk : okA s = false → g.2.f = s.f)
    (hgo : okA s = true → s.f = (0, 0) → (s.t.kind ≠ 0 → Fit z (nextA z s) ts.tail ∧ ∀ t ∈ ts.tail, Gd t) → (∀ x, Key x → isA x s = (s.t.text == x)) → Ans z g (f s.t ts)) : Ans z g (bnd (lookB z ts) f) := by
  rcases look_cases hg h with ⟨h1, h2⟩ | ⟨h1, h2, h3, h4, h5⟩
  · rw [h1, bnd_err]
    exact ⟨hk h2, okA_ne h2⟩
  · rw [h1, bnd_ok]
    exact hgo h2 h3 h4 (fun x hx => is_of hx h2 h5)

/-- Behind a piece that both have read. -/
theorem ans_bnd {α β : Type} {g : β × RS} {a : α × RS} {b : R α} {f : α → List Tk → R β} (h : Ans z a b) (hk : okA a.2 = false → g.2.f = a.2.f)
    (hgo : ∀ ts, (∀ t ∈ ts, Gd t) → Fit z a.2 ts → okA a.2 = true → Ans z g (f a.1 ts)) (hstop : ∀ x ts, z.fin.1 ≠ 0 → ts = [] → f x ts = .error z.fin) : Ans z g (bnd b f) := by
  cases b with
  | error e =>
    obtain ⟨h1, h2⟩ := h
    rw [bnd_err]
    exact ⟨by rw [hk (okA_false (by rw [h1]; exact h2)), h1], h2⟩
  | ok x =>
    obtain ⟨x, ts⟩ := x
    obtain ⟨h0, h1, h2⟩ := h
    rw [bnd_ok]
    cases ho : okA a.2 with
    | true => rw [← h2 ho]; exact hgo ts h0 h1 ho
    | false =>
      rcases look_cases h0 h1 with ⟨_, _⟩ | ⟨_, h4, _⟩
      · cases ts with
        | cons t r =>
          simp only [Fit] at h1
          rw [h1] at ho
          simp [okA] at ho
        | nil =>
          by_cases hz : z.fin.1 = 0
          · simp only [Fit, hz, if_true] at h1
            rw [h1] at ho
            simp [okA] at ho
          · rw [hstop x [] hz rfl]
            obtain ⟨_, h5⟩ := fit_bad h1 hz
            exact ⟨by rw [hk ho, h5], hz⟩
      · rw [ho] at h4; cases h4
end
end Sy
end Go.Proofs.YtedppdcknkcbjaaGreatDoor

namespace Go.Proofs.YtedppdcknkcbjaaGreatDoor
namespace Sy
open Lx
section
variable {z : Env}

theorem ans_map {α β : Type} {g : β × RS} {a : α × RS} {b : R α} {f : α → β} (h : Ans z a b) (h2 : g.2 = a.2) (h1 : okA a.2 = true → g.1 = f a.1) : Ans z g (bnd b fun x ts => .ok (f x, ts)) := by
  cases b with
  | error e =>
    obtain ⟨h3, h4⟩ := h
    exact ⟨by rw [h2, h3], h4⟩
  | ok x =>
    obtain ⟨x, ts⟩ := x
    obtain ⟨h3, h4, h5⟩ := h
    exact ⟨h3, by rw [h2]; exact h4, fun ho => by rw [h2] at ho; rw [h1 ho, h5 ho]⟩

/-- A test of the next token. -/
theorem ans_ite {α : Type} {g : α × RS} {s : RS} {ts : List Tk} {x : List UInt8} {yes no : List Tk → R α} (hx : Key x) (hg : ∀ t ∈ ts, Gd t) (h : Fit z s ts) (hk : okA s = false → g.2.f = s.f)
    (hy : isA x s = true → (∀ t ∈ ts.tail, Gd t) → Fit z (nextA z s) ts.tail → Ans z g (yes ts.tail)) (hn : isA x s = false → okA s = true → Ans z g (no ts)) : Ans z g (iteB z x ts yes no) := by
  unfold iteB
  refine ans_look hg h hk ?_
  intro ho hf hnx his
  have e := his x hx
  cases hb : (s.t.text == x) with
  | true =>
    rw [hb] at e
    have hk0 := (is_kind e).1
    rw [if_pos rfl]
    exact hy e (hnx hk0).2 (hnx hk0).1
  | false =>
    rw [hb] at e
    rw [if_neg (by simp)]
    exact hn e ho

theorem ans_must {s : RS} {ts : List Tk} {x : List UInt8} (hx : Key x) (hg : ∀ t ∈ ts, Gd t) (h : Fit z s ts) : Ans z ((), mustA z x s) (needB z x ts) := by
  unfold needB
  refine ans_look hg h (fun hb => by rw [must_bad hb]) ?_
  intro ho hf hnx his
  have e := his x hx
  cases hb : (s.t.text == x) with
  | true =>
    rw [hb] at e
    have hk0 := (is_kind e).1
    rw [if_pos rfl]
    have e2 : mustA z x s = nextA z s := by simp [mustA, e]
    exact ⟨(hnx hk0).2, by rw [e2]; exact (hnx hk0).1, fun _ => rfl⟩
  | false =>
    rw [hb] at e
    rw [if_neg (by simp)]
    refine ⟨?_, by simp⟩
    show (mustA z x s).f = _
    simp [mustA, e, noA, ho]

theorem ans_name {s : RS} {ts : List Tk} (hg : ∀ t ∈ ts, Gd t) (h : Fit z s ts) : Ans z (nameA z s) (bnd (kindB z 2 ts) fun t ts => .ok ((t.text, t.pos), ts)) := by
  have hb : Ans z (nameA z s) (bnd (lookB z ts) fun t _ => if t.kind == 2 then .ok ((t.text, t.pos), ts.tail) else .error (4, t.pos)) := by
    refine ans_look hg h (fun hb => by rw [name_bad hb]) ?_
    intro ho hf hnx his
    by_cases hk : s.t.kind = 2
    · rw [if_pos (by simp [hk])]
      have e : nameA z s = ((s.t.text, s.t.pos), nextA z s) := by simp [nameA, isNameA, ho, hk]
      rw [e]
      exact ⟨(hnx (by omega)).2, (hnx (by omega)).1, fun _ => rfl⟩
    · rw [if_neg (by simp [hk])]
      have e : nameA z s = (([], 0), noA s) := by simp [nameA, isNameA, hk]
      rw [e]
      refine ⟨?_, by simp⟩
      simp [noA, ho]
  have e : (bnd (kindB z 2 ts) fun t ts => (.ok ((t.text, t.pos), ts) : R (List UInt8 × Nat))) = (bnd (lookB z ts) fun t _ => if t.kind == 2 then .ok ((t.text, t.pos), ts.tail) else .error (4, t.pos)) := by
    unfold kindB
    cases lookB z ts with
    | error e => rfl
    | ok x =>
      obtain ⟨t, us⟩ := x
      simp only [bnd_ok]
      by_cases hk : t.kind = 2 <;> simp [hk, bnd]
  rw [e]
  exact hb

theorem bnd_assoc {α β γ : Type} (x : R α) (f : α → List Tk → R β) (g : β → List Tk → R γ) : bnd (bnd x f) g = bnd x fun a ts => bnd (f a ts) g := by
  cases x with
  | error e => rfl
  | ok x => rfl
theorem look_stop (hz : z.fin.1 ≠ 0) : lookB z [] = .error z.fin := by simp [lookB, hz]
theorem need_stop {x : List UInt8} (hz : z.fin.1 ≠ 0) : needB z x [] = .error z.fin := by simp [needB, look_stop hz, bnd]
theorem kind_stop {k : Nat} (hz : z.fin.1 ≠ 0) : kindB z k [] = .error z.fin := by simp [kindB, look_stop hz, bnd]
theorem ite_stop {α : Type} {x : List UInt8} {f g : List Tk → R α} (hz : z.fin.1 ≠ 0) : iteB z x [] f g = .error z.fin := by simp [iteB, look_stop hz, bnd]
theorem stop_bnd {α β : Type} {b : R α} {f : α → List Tk → R β} {e : Nat × Nat} (h : b = .error e) : bnd b f = .error e := by rw [h]; rfl

theorem key_comma : Key s_comma := key_sign (by decide)
theorem key_rp : Key s_rp := key_sign (by decide)
theorem key_lp : Key s_lp := key_sign (by decide)
theorem key_rs : Key s_rs := key_sign (by decide)
theorem key_ls : Key s_ls := key_sign (by decide)
theorem key_rb : Key s_rb := key_sign (by decide)
theorem key_lb : Key s_lb := key_sign (by decide)
theorem key_star : Key s_star := key_sign (by decide)
theorem key_minus : Key s_minus := key_sign (by decide)
theorem key_plus : Key s_plus := key_sign (by decide)
theorem key_arrow : Key s_arrow := key_sign (by decide)
theorem key_to : Key s_to := key_sign (by decide)
theorem key_cons : Key s_cons := key_sign (by decide)
theorem key_eqeq : Key s_eqeq := key_sign (by decide)
theorem key_lt : Key s_lt := key_sign (by decide)
theorem key_semi : Key s_semi := key_sign (by decide)
theorem key_colon : Key s_colon := key_sign (by decide)
theorem key_eq : Key s_eq := key_sign (by decide)
theorem key_bar : Key s_bar := key_sign (by decide)
theorem key_tilde : Key s_tilde := key_sign (by decide)
theorem key_list : Key w_list := key_word (by decide) (by decide)
theorem key_int : Key w_int := key_word (by decide) (by decide)
theorem key_bool : Key w_bool := key_word (by decide) (by decide)
theorem key_unit : Key w_unit := key_word (by decide) (by decide)

theorem ans_stuck {α : Type} {x : α} {s : RS} {ts : List Tk} (hg : ∀ t ∈ ts, Gd t) (h : Fit z s ts) : Ans z (x, stuckA s) (bnd (lookB z ts) fun _ _ => (.error (99, 0) : R α)) := by
  refine ans_look hg h (fun hb => by simp [stuckA, hb]) ?_
  intro ho _ _ _
  exact ⟨by simp [stuckA, ho], by simp⟩
theorem stuck_stop {α : Type} (hz : z.fin.1 ≠ 0) : (bnd (lookB z []) fun _ _ => (.error (99, 0) : R α)) = .error z.fin := stop_bnd (look_stop hz)
theorem stuck_keep {s : RS} (h : okA s = false) : stuckA s = s := by simp [stuckA, h]

/- types -/
theorem lists_same : ∀ n a s ts, (∀ t ∈ ts, Gd t) → Fit z s ts → Ans z (listsA z n a s) (listsB z n a ts) := by
  intro n
  induction n with
  | zero => intro a s ts hg h; exact ans_stuck hg h
  | succ n ih =>
    intro a s ts hg h
    rw [listsA, listsB]
    refine ans_ite key_list hg h ?_ ?_ ?_
    · intro hb; simp [is_bad hb]
    · intro hi hg2 h2
      simp only [hi, if_true]
      exact ih _ _ _ hg2 h2
    · intro hi ho
      simp only [hi, Bool.false_eq_true, if_false]
      exact ⟨hg, h, fun _ => rfl⟩
theorem row_same : ∀ n l s ts, (∀ t ∈ ts, Gd t) → Fit z s ts → Ans z (rowA z n l s) (rowB z n l ts) := by
  intro n
  induction n with
  | zero => intro a s ts hg h; exact ans_stuck hg h
  | succ n ih =>
    intro l s ts hg h
    rw [rowA, rowB]
    have hq := ans_name hg h
    have e : ∀ f : Tr → List Tk → R (List Tr), bnd (namedB z ts) f = bnd (bnd (kindB z 2 ts) fun t ts => .ok ((t.text, t.pos), ts)) fun q ts => f (nm 23 q.2 q.1 []) ts := by
      intro f
      rw [namedB, bnd_assoc, bnd_assoc]
      rfl
    rw [e]
    refine ans_bnd hq ?_ ?_ ?_
    · intro hb; simp [is_bad hb]
    · intro us hg2 h2 ho
      refine ans_ite key_comma hg2 h2 ?_ ?_ ?_
      · intro hb; simp [is_bad hb]
      · intro hi hg3 h3
        simp only [hi, if_true]
        exact ih _ _ _ hg3 h3
      · intro hi _
        simp only [hi, Bool.false_eq_true, if_false]
        exact ⟨hg2, h2, fun _ => rfl⟩
    · intro x us hz hu
      subst hu
      exact ite_stop hz
end
end Sy
end Go.Proofs.YtedppdcknkcbjaaGreatDoor

namespace Go.Proofs.YtedppdcknkcbjaaGreatDoor
namespace Sy
open Lx

/-- Two readers of one thing: the one keeps its fault, the other stops at it. -/
structure Sm (z : Env) (g : RS → Tr × RS) (b : List Tk → R Tr) : Prop where
  keep : ∀ s, okA s = false → (g s).2.f = s.f
  ans : ∀ s ts, (∀ t ∈ ts, Gd t) → Fit z s ts → Ans z (g s) (b ts)
  stop : z.fin.1 ≠ 0 → b [] = .error z.fin

section
variable {z : Env}

theorem must_f {s : RS} {x : List UInt8} (h : okA s = false) : (mustA z x s).f = s.f := by rw [must_bad h]
theorem okA_f {s : RS} {f : Nat × Nat} (h : s.f = f) (hf : f.1 ≠ 0) : okA s = false := okA_false (by rw [h]; exact hf)
theorem bad_of {s u : RS} (h : okA u = false) (e : s.f = u.f) : okA s = false := okA_false (by rw [e]; exact okA_ne h)

theorem tatom_same {TA : RS → Tr × RS} {TB : List Tk → R Tr} (hT : Sm z TA TB) : Sm z (tatomA z TA) (tatomB z TB) := by
  refine ⟨?_, ?_, ?_⟩
  · intro s h
    simp [tatomA, is_bad h, no_bad h]
  · intro s ts hg h
    unfold tatomB
    refine ans_look hg h (fun hb => by simp [tatomA, is_bad hb, no_bad hb]) ?_
    intro ho hf hnx his
    have e1 := his _ key_int
    have e2 := his _ key_bool
    have e3 := his _ key_unit
    have e4 := his _ key_lp
    unfold tatomA
    rw [e1, e2, e3, e4]
    by_cases c4 : s.t.text = s_lp
    · have hk : s.t.kind ≠ 0 := by
        have : isA s_lp s = true := by rw [e4, c4]; decide
        exact (is_kind this).1
      obtain ⟨h2, hg2⟩ := hnx hk
      rw [c4]
      simp only [show (s_lp == w_int) = false by decide, show (s_lp == w_bool) = false by decide, show (s_lp == w_unit) = false by decide, beq_self_eq_true, if_true, Bool.false_eq_true, if_false]
      have hA := hT.ans _ _ hg2 h2
      refine ans_bnd hA (fun hb => must_f hb) ?_ (fun x us hz hu => by subst hu; exact stop_bnd (need_stop hz))
      intro us hg3 h3 ho3
      exact ans_map (f := fun _ => (TA (nextA z s)).1) (ans_must key_rp hg3 h3) rfl (fun _ => rfl)
    · have n4 : (s.t.text == s_lp) = false := by simp [c4]
      rw [n4]
      by_cases c1 : s.t.text = w_int
      · have hk : s.t.kind ≠ 0 := by
          have : isA w_int s = true := by rw [e1, c1]; decide
          exact (is_kind this).1
        obtain ⟨h2, hg2⟩ := hnx hk
        rw [c1]
        simp only [beq_self_eq_true, if_true, Bool.false_eq_true, if_false]
        exact ⟨hg2, h2, fun _ => rfl⟩
      · have n1 : (s.t.text == w_int) = false := by simp [c1]
        rw [n1]
        by_cases c2 : s.t.text = w_bool
        · have hk : s.t.kind ≠ 0 := by
            have : isA w_bool s = true := by rw [e2, c2]; decide
            exact (is_kind this).1
          obtain ⟨h2, hg2⟩ := hnx hk
          rw [c2]
          simp only [beq_self_eq_true, if_true, Bool.false_eq_true, if_false]
          exact ⟨hg2, h2, fun _ => rfl⟩
        · have n2 : (s.t.text == w_bool) = false := by simp [c2]
          rw [n2]
          by_cases c3 : s.t.text = w_unit
          · have hk : s.t.kind ≠ 0 := by
              have : isA w_unit s = true := by rw [e3, c3]; decide
              exact (is_kind this).1
            obtain ⟨h2, hg2⟩ := hnx hk
            rw [c3]
            simp only [beq_self_eq_true, if_true, Bool.false_eq_true, if_false]
            exact ⟨hg2, h2, fun _ => rfl⟩
          · have n3 : (s.t.text == w_unit) = false := by simp [c3]
            rw [n3]
            simp only [Bool.false_eq_true, if_false]
            refine ⟨?_, by simp⟩
            simp [noA, ho]
  · intro hz
    exact stop_bnd (look_stop hz)

theorem lists_keep {n : Nat} (hn : n ≠ 0) (a : Tr) (s : RS) (h : okA s = false) : (listsA z n a s).2.f = s.f := by
  obtain ⟨m, rfl⟩ : ∃ m, n = m + 1 := ⟨n - 1, by omega⟩
  simp [listsA, is_bad h]
theorem lists_stop {n : Nat} (hn : n ≠ 0) (a : Tr) (hz : z.fin.1 ≠ 0) : listsB z n a [] = .error z.fin := by
  obtain ⟨m, rfl⟩ : ∃ m, n = m + 1 := ⟨n - 1, by omega⟩
  exact ite_stop hz
theorem some_same {N : Nat} (hN : N ≠ 0) {TA : RS → Tr × RS} {TB : List Tk → R Tr} (hT : Sm z TA TB) : Sm z (someA z N TA) (someB z N TB) := by
  have hA := tatom_same hT
  refine ⟨?_, ?_, ?_⟩
  · intro s h
    have h1 := hA.keep s h
    rw [someA, lists_keep hN _ _ (bad_of h h1), h1]
  · intro s ts hg h
    refine ans_bnd (hA.ans s ts hg h) (fun hb => lists_keep hN _ _ hb) ?_ (fun x us hz hu => by subst hu; exact lists_stop hN _ hz)
    intro us hg2 h2 ho
    exact lists_same _ _ _ _ hg2 h2
  · intro hz
    exact stop_bnd (hA.stop hz)

theorem pair_same {N : Nat} (hN : N ≠ 0) {TA : RS → Tr × RS} {TB : List Tk → R Tr} (hT : Sm z TA TB) : ∀ n, n ≠ 0 → Sm z (pairA z N TA n) (pairB z N TB n) := by
  have hS := some_same hN hT
  have hans : ∀ n s ts, (∀ t ∈ ts, Gd t) → Fit z s ts → Ans z (pairA z N TA n s) (pairB z N TB n ts) := by
    intro n
    induction n with
    | zero => intro s ts hg h; exact ans_stuck hg h
    | succ n ih =>
      intro s ts hg h
      rw [pairA, pairB]
      refine ans_bnd (hS.ans s ts hg h) (fun hb => by simp [is_bad hb]) ?_ (fun x us hz hu => by subst hu; exact ite_stop hz)
      intro us hg2 h2 ho
      refine ans_ite key_star hg2 h2 (fun hb => by simp [is_bad hb]) ?_ ?_
      · intro hi hg3 h3
        simp only [hi, if_true]
        exact ans_map (ih _ _ hg3 h3) rfl (fun _ => rfl)
      · intro hi _
        simp only [hi, Bool.false_eq_true, if_false]
        exact ⟨hg2, h2, fun _ => rfl⟩
  intro n hn
  obtain ⟨m, rfl⟩ : ∃ m, n = m + 1 := ⟨n - 1, by omega⟩
  refine ⟨?_, hans _, ?_⟩
  · intro s h
    have h1 := hS.keep s h
    rw [pairA]
    simp [is_bad (bad_of h h1), h1]
  · intro hz
    exact stop_bnd (hS.stop hz)
end
end Sy
end Go.Proofs.YtedppdcknkcbjaaGreatDoor

namespace Go.Proofs.YtedppdcknkcbjaaGreatDoor
namespace Sy
open Lx
section
variable {z : Env}

theorem is_excl {s : RS} {x y : List UInt8} (h : isA x s = true) (hne : x ≠ y) : isA y s = false := by
  simp only [isA, Bool.and_eq_true, beq_iff_eq] at h
  have e : (s.t.text == y) = false := by rw [beq_eq_false_iff_ne, h.2]; exact hne
  simp [isA, e]

theorem row_keep {n : Nat} (hn : n ≠ 0) (l : List Tr) (s : RS) (h : okA s = false) : (rowA z n l s).2.f = s.f := by
  obtain ⟨m, rfl⟩ : ∃ m, n = m + 1 := ⟨n - 1, by omega⟩
  rw [rowA, name_bad h]
  simp [is_bad h]
theorem row_stop {n : Nat} (hn : n ≠ 0) (l : List Tr) (hz : z.fin.1 ≠ 0) : rowB z n l [] = .error z.fin := by
  obtain ⟨m, rfl⟩ : ∃ m, n = m + 1 := ⟨n - 1, by omega⟩
  exact stop_bnd (stop_bnd (kind_stop hz))

theorem typBody_same {N : Nat} (hN : N ≠ 0) {TA : RS → Tr × RS} {TB : List Tk → R Tr} (hT : Sm z TA TB) : Sm z (typBodyA z N TA) (typBodyB z N TB) := by
  have hP := pair_same hN hT N hN
  refine ⟨?_, ?_, ?_⟩
  · intro s h
    have h1 := hP.keep s h
    have h2 := bad_of h h1
    simp only [typBodyA, is_bad h2, Bool.false_eq_true, if_false]
    exact h1
  · intro s ts hg h
    unfold typBodyB
    refine ans_bnd (hP.ans s ts hg h) (fun hb => by simp only [typBodyA, is_bad hb, Bool.false_eq_true, if_false]) ?_ (fun x us hz hu => by subst hu; exact ite_stop hz)
    intro us hg2 h2 ho
    unfold typBodyA
    simp only []
    generalize pairA z N TA N s = a at *
    refine ans_ite key_minus hg2 h2 (fun hb => by rw [ho] at hb; cases hb) ?_ ?_
    · intro hi hg3 h3
      have hna := is_excl hi (show s_minus ≠ s_arrow by decide)
      simp only [hna, hi, Bool.false_eq_true, if_false, if_true]
      refine ans_bnd (ans_must key_lb hg3 h3) (fun hb => ?_) ?_ (fun x us hz hu => by subst hu; exact stop_bnd (row_stop hN _ hz))
      · have h4 := row_keep (z := z) hN [] _ hb
        have h5 := bad_of hb h4
        have h6 := must_bad (z := z) (x := s_rb) h5
        rw [h6, must_bad h5]
        rw [hT.keep _ h5, h4]
      · intro us hg4 h4 ho4
        refine ans_bnd (row_same _ _ _ _ hg4 h4) (fun hb => ?_) ?_ (fun x us hz hu => by subst hu; exact stop_bnd (need_stop hz))
        · rw [must_bad hb, must_bad hb, hT.keep _ hb]
        · intro us hg5 h5 ho5
          refine ans_bnd (ans_must key_rb hg5 h5) (fun hb => ?_) ?_ (fun x us hz hu => by subst hu; exact stop_bnd (need_stop hz))
          · have hb' : okA (mustA z s_rb (rowA z N [] (mustA z s_lb (nextA z a.2))).2) = false := hb
            rw [must_bad hb', hT.keep _ hb']
          · intro us hg6 h6 ho6
            refine ans_bnd (ans_must key_arrow hg6 h6) (fun hb => hT.keep _ hb) ?_ (fun x us hz hu => by subst hu; exact stop_bnd (hT.stop hz))
            intro us hg7 h7 ho7
            exact ans_map (hT.ans _ _ hg7 h7) rfl (fun _ => rfl)
    · intro hi _
      refine ans_ite key_arrow hg2 h2 (fun hb => by rw [ho] at hb; cases hb) ?_ ?_
      · intro hi2 hg3 h3
        simp only [hi2, if_true]
        exact ans_map (hT.ans _ _ hg3 h3) rfl (fun _ => rfl)
      · intro hi2 _
        simp only [hi, hi2, Bool.false_eq_true, if_false]
        exact ⟨hg2, h2, fun _ => rfl⟩
  · intro hz
    exact stop_bnd (hP.stop hz)

theorem typ_same {N : Nat} (hN : N ≠ 0) : ∀ k, Sm z (typA z N k) (typB z N k) := by
  intro k
  induction k with
  | zero =>
    refine ⟨fun s h => by simp [typA, h], ?_, fun hz => stop_bnd (look_stop hz)⟩
    intro s ts hg h
    rw [typB]
    refine ans_look hg h (fun hb => by simp [typA, hb]) ?_
    intro ho hf hnx his
    simp only [typA, ho, if_true]
    exact ⟨rfl, by simp⟩
  | succ k ih =>
    have hB := typBody_same hN ih
    refine ⟨fun s h => by simp [typA, h], ?_, fun hz => stop_bnd (look_stop hz)⟩
    intro s ts hg h
    rw [typB]
    refine ans_look hg h (fun hb => by simp [typA, hb]) ?_
    intro ho hf hnx his
    simp only [typA, ho, if_true]
    exact hB.ans s ts hg h
end
end Sy
end Go.Proofs.YtedppdcknkcbjaaGreatDoor

namespace Go.Proofs.YtedppdcknkcbjaaGreatDoor
namespace Sy
open Lx
section
variable {z : Env}

theorem ans_kind2 {s : RS} {ts : List Tk} (hg : ∀ t ∈ ts, Gd t) (h : Fit z s ts) : Ans z (s.t, (nameA z s).2) (kindB z 2 ts) := by
  unfold kindB
  refine ans_look hg h (fun hb => by rw [name_bad hb]) ?_
  intro ho hf hnx his
  by_cases hk : s.t.kind = 2
  · rw [if_pos (by simp [hk])]
    have e : nameA z s = ((s.t.text, s.t.pos), nextA z s) := by simp [nameA, isNameA, ho, hk]
    rw [e]
    exact ⟨(hnx (by omega)).2, (hnx (by omega)).1, fun _ => rfl⟩
  · rw [if_neg (by simp [hk])]
    have e : nameA z s = (([], 0), noA s) := by simp [nameA, isNameA, hk]
    rw [e]
    refine ⟨?_, by simp⟩
    simp [noA, ho]
theorem name_of {s : RS} (h : okA (nameA z s).2 = true) : isNameA s = true ∧ nameA z s = ((s.t.text, s.t.pos), nextA z s) := by
  cases hi : isNameA s with
  | true => exact ⟨rfl, by simp [nameA, hi]⟩
  | false =>
    exfalso
    have e : (nameA z s).2 = noA s := by simp [nameA, hi]
    rw [e] at h
    cases ho : okA s with
    | true =>
      simp only [noA, ho, if_true] at h
      simp [okA] at h
    | false => rw [no_bad ho, ho] at h; cases h
theorem fns_snoc (l : List Tk) (t : Tk) (b : Tr) : fns (l ++ [t]) b = fns l (nm 7 t.pos t.text [b]) := by simp [fns]

theorem params_keep {EA : RS → Tr × RS} (hE : ∀ s, okA s = false → (EA s).2.f = s.f) (n : Nat) (x : List UInt8) (first : Bool) (s : RS) (h : okA s = false) : (paramsA z EA x n first s).2.f = s.f := by
  cases n with
  | zero => simp [paramsA, stuck_keep h]
  | succ n =>
    rw [paramsA, name_bad h]
    have hi : isNameA s = false := by simp [isNameA, h]
    rw [hi, must_bad h]
    cases first
    · simp [hE s h]
    · simp [h]
theorem names_stop {least n : Nat} {l : List Tk} (hz : z.fin.1 ≠ 0) : namesB z least n l [] = .error z.fin := by
  cases n with
  | zero => exact stuck_stop hz
  | succ n =>
    rw [namesB]
    split
    · exact stop_bnd (kind_stop hz)
    · exact stop_bnd (look_stop hz)

theorem params_same {EA : RS → Tr × RS} {EB : List Tk → R Tr} (hE : Sm z EA EB) {x : List UInt8} (hx : Key x) {least : Nat} (hl : least ≤ 1) : ∀ n (l : List Tk) s ts, (∀ t ∈ ts, Gd t) → Fit z s ts →
    Ans z (fns l (paramsA z EA x n (decide (l.length < least)) s).1, (paramsA z EA x n (decide (l.length < least)) s).2)
      (bnd (namesB z least n l ts) fun l ts => bnd (needB z x ts) fun _ ts => bnd (EB ts) fun b ts => .ok (fns l b, ts)) := by
  intro n
  induction n with
  | zero =>
    intro l s ts hg h
    have e : (bnd (namesB z least 0 l ts) fun l ts => bnd (needB z x ts) fun _ ts => bnd (EB ts) fun b ts => (.ok (fns l b, ts) : R Tr)) = bnd (lookB z ts) fun _ _ => .error (99, 0) := by
      rw [namesB, bnd_assoc]
      rfl
    rw [e]
    exact ans_stuck hg h
  | succ n ih =>
    intro l s ts hg h
    have step : ∀ first : Bool, (first || isNameA s) = true →
        Ans z (fns l (paramsA z EA x (n + 1) first s).1, (paramsA z EA x (n + 1) first s).2)
          (bnd (kindB z 2 ts) fun t ts => bnd (namesB z least n (l ++ [t]) ts) fun l ts => bnd (needB z x ts) fun _ ts => bnd (EB ts) fun b ts => .ok (fns l b, ts)) := by
      intro first hfi
      rw [paramsA, if_pos hfi]
      have hq := ans_kind2 hg h
      refine ans_bnd hq (fun hb => ?_) ?_ (fun y us hz hu => ?_)
      · have hb' : okA (nameA z s).2 = false := hb
        rw [if_neg (by rw [hb']; simp)]
      · intro us hg2 h2 ho
        have ho' : okA (nameA z s).2 = true := ho
        obtain ⟨hi, hnm⟩ := name_of ho'
        rw [if_pos ho']
        have hd : decide ((l ++ [s.t]).length < least) = false := by simp; omega
        have := ih (l ++ [s.t]) (nameA z s).2 us hg2 h2
        rw [hd, fns_snoc] at this
        rw [hnm] at this ⊢
        exact this
      · subst hu
        exact stop_bnd (names_stop hz)
    by_cases hfi : l.length < least
    · rw [namesB, if_pos hfi, bnd_assoc]
      have hd : decide (l.length < least) = true := by simp [hfi]
      rw [hd]
      exact step true rfl
    · rw [namesB, if_neg hfi, bnd_assoc]
      have hd : decide (l.length < least) = false := by simp [hfi]
      rw [hd]
      refine ans_look hg h (fun hb => params_keep hE.keep _ _ _ _ hb) ?_
      intro ho hf hnx his
      by_cases hk : s.t.kind = 2
      · rw [if_pos (by simp [hk]), bnd_assoc]
        exact step false (by simp [isNameA, ho, hk])
      · rw [if_neg (by simp [hk]), bnd_ok]
        have hi : isNameA s = false := by simp [isNameA, hk]
        rw [paramsA, hi]
        simp only [Bool.or_false, Bool.false_eq_true, if_false]
        refine ans_bnd (ans_must hx hg h) (fun hb => hE.keep _ hb) ?_ (fun y us hz hu => by subst hu; exact stop_bnd (hE.stop hz))
        intro us hg2 h2 _
        exact ans_map (f := fns l) (hE.ans _ _ hg2 h2) rfl (fun _ => rfl)

theorem squares_same {EA : RS → Tr × RS} {EB : List Tk → R Tr} (hE : Sm z EA EB) : ∀ n l s ts, (∀ t ∈ ts, Gd t) → Fit z s ts → Ans z (squaresA z EA n l s) (squaresB z EB n l ts) := by
  intro n
  induction n with
  | zero => intro l s ts hg h; exact ans_stuck hg h
  | succ n ih =>
    intro l s ts hg h
    rw [squaresA, squaresB]
    refine ans_bnd (hE.ans s ts hg h) (fun hb => by simp [is_bad hb]) ?_ (fun x us hz hu => by subst hu; exact ite_stop hz)
    intro us hg2 h2 ho
    refine ans_ite key_comma hg2 h2 (fun hb => by simp [is_bad hb]) ?_ ?_
    · intro hi hg3 h3
      simp only [hi, if_true]
      exact ih _ _ _ hg3 h3
    · intro hi _
      simp only [hi, Bool.false_eq_true, if_false]
      exact ⟨hg2, h2, fun _ => rfl⟩
theorem squares_keep {EA : RS → Tr × RS} (hE : ∀ s, okA s = false → (EA s).2.f = s.f) (n : Nat) (l : List Tr) (s : RS) (h : okA s = false) : (squaresA z EA n l s).2.f = s.f := by
  cases n with
  | zero => simp [squaresA, stuck_keep h]
  | succ n =>
    have h1 := hE s h
    rw [squaresA]
    simp [is_bad (bad_of h h1), h1]
theorem square_same {N : Nat} {EA : RS → Tr × RS} {EB : List Tk → R Tr} (hE : Sm z EA EB) (p : Nat) : Sm z (squareA z N EA p) (squareB z N EB p) := by
  refine ⟨?_, ?_, fun hz => ite_stop hz⟩
  · intro s h
    have h1 := squares_keep (z := z) hE.keep N [] s h
    simp only [squareA, is_bad h, Bool.false_eq_true, if_false]
    rw [must_bad (bad_of h h1), h1]
  · intro s ts hg h
    unfold squareB
    refine ans_ite key_rs hg h (fun hb => ?_) ?_ ?_
    · have h1 := squares_keep (z := z) hE.keep N [] s hb
      simp only [squareA, is_bad hb, Bool.false_eq_true, if_false]
      rw [must_bad (bad_of hb h1), h1]
    · intro hi hg2 h2
      simp only [squareA, hi, if_true]
      exact ⟨hg2, h2, fun _ => rfl⟩
    · intro hi ho
      simp only [squareA, hi, Bool.false_eq_true, if_false]
      refine ans_bnd (squares_same hE N [] s ts hg h) (fun hb => must_f hb) ?_ (fun x us hz hu => by subst hu; exact stop_bnd (need_stop hz))
      intro us hg2 h2 _
      exact ans_map (f := fun _ => consUp (squaresA z EA N [] s).1 (nd 15 p [])) (ans_must key_rs hg2 h2) rfl (fun _ => rfl)
theorem round_same {EA : RS → Tr × RS} {EB : List Tk → R Tr} (hE : Sm z EA EB) (p : Nat) : Sm z (roundA z EA p) (roundB z EB p) := by
  refine ⟨?_, ?_, fun hz => ite_stop hz⟩
  · intro s h
    have h1 := hE.keep s h
    have h2 := bad_of h h1
    simp only [roundA, is_bad h, is_bad h2, Bool.false_eq_true, if_false]
    rw [must_bad h2, h1]
  · intro s ts hg h
    unfold roundB
    refine ans_ite key_rp hg h (fun hb => ?_) ?_ ?_
    · have h1 := hE.keep s hb
      have h2 := bad_of hb h1
      simp only [roundA, is_bad hb, is_bad h2, Bool.false_eq_true, if_false]
      rw [must_bad h2, h1]
    · intro hi hg2 h2
      simp only [roundA, hi, if_true]
      exact ⟨hg2, h2, fun _ => rfl⟩
    · intro hi ho
      simp only [roundA, hi, Bool.false_eq_true, if_false]
      refine ans_bnd (hE.ans s ts hg h) (fun hb => by simp only [is_bad hb, Bool.false_eq_true, if_false]; exact must_f hb) ?_ (fun x us hz hu => by subst hu; exact ite_stop hz)
      intro us hg2 h2 ho2
      refine ans_ite key_comma hg2 h2 (fun hb => by rw [ho2] at hb; cases hb) ?_ ?_
      · intro hi2 hg3 h3
        simp only [hi2, if_true]
        refine ans_bnd (hE.ans _ _ hg3 h3) (fun hb => must_f hb) ?_ (fun x us hz hu => by subst hu; exact stop_bnd (need_stop hz))
        intro vs hg4 h4 _
        exact ans_map (f := fun _ => nd 12 p [(EA s).1, (EA (nextA z (EA s).2)).1]) (ans_must key_rp hg4 h4) rfl (fun _ => rfl)
      · intro hi2 _
        simp only [hi2, Bool.false_eq_true, if_false]
        exact ans_map (f := fun _ => (EA s).1) (ans_must key_rp hg2 h2) rfl (fun _ => rfl)
end
end Sy
end Go.Proofs.YtedppdcknkcbjaaGreatDoor

namespace Go.Proofs.YtedppdcknkcbjaaGreatDoor
namespace Sy
open Lx
section
variable {z : Env}

theorem key_true : Key w_true := key_word (by decide) (by decide)
theorem key_false : Key w_false := key_word (by decide) (by decide)
theorem key_do : Key w_do := key_word (by decide) (by decide)
theorem key_fst : Key w_fst := key_word (by decide) (by decide)
theorem key_snd : Key w_snd := key_word (by decide) (by decide)

theorem ans_kind1 {u : RS} {us : List Tk} (hg : ∀ t ∈ us, Gd t) (h : Fit z u us) : Ans z (u.t, nextA z (if okA u && u.t.kind != 1 then noA u else u)) (kindB z 1 us) := by
  unfold kindB
  refine ans_look hg h (fun hb => by simp [hb, next_bad hb]) ?_
  intro ho hf hnx his
  by_cases hk : u.t.kind = 1
  · have e : (okA u && u.t.kind != 1) = false := by simp [hk]
    have e' : (u.t.kind == 1) = true := by simp [hk]
    simp only [e, e', Bool.false_eq_true, if_false, if_true]
    exact ⟨(hnx (by omega)).2, (hnx (by omega)).1, fun _ => rfl⟩
  · have e : (okA u && u.t.kind != 1) = true := by simp [hk, ho]
    have e' : (u.t.kind == 1) = false := by simp [hk]
    have e2 : noA u = ⟨u.t, u.rest, (4, u.t.pos)⟩ := by simp [noA, ho]
    simp only [e, e', e2, Bool.false_eq_true, if_false, if_true]
    rw [next_bad (by simp [okA])]
    exact ⟨rfl, by simp⟩
theorem text_kind {s : RS} {x : List UInt8} (e : isA x s = (s.t.text == x)) (h : (s.t.text == x) = true) : s.t.kind ≠ 0 := by
  rw [h] at e
  exact (is_kind e).1

theorem atom_same {N : Nat} {EA : RS → Tr × RS} {EB : List Tk → R Tr} (hE : Sm z EA EB) : Sm z (atomA z N EA) (atomB z N EB) := by
  refine ⟨fun s h => by simp [atomA, h], ?_, fun hz => stop_bnd (look_stop hz)⟩
  intro s ts hg h
  unfold atomB
  refine ans_look hg h (fun hb => by simp [atomA, hb]) ?_
  intro ho hf hnx his
  unfold atomA
  rw [if_pos ho]
  have e1 := his _ key_tilde
  have e2 := his _ key_true
  have e3 := his _ key_false
  have e4 := his _ key_lp
  have e5 := his _ key_ls
  by_cases hk2 : s.t.kind = 2
  · have b2 : (s.t.kind == 2) = true := by simp [hk2]
    rw [if_pos hk2]
    simp only [b2, if_true]
    exact ⟨(hnx (by omega)).2, (hnx (by omega)).1, fun _ => rfl⟩
  · have b2 : (s.t.kind == 2) = false := by simp [hk2]
    rw [if_neg hk2]
    simp only [b2, Bool.false_eq_true, if_false]
    by_cases hk1 : s.t.kind = 1
    · have b1 : (s.t.kind == 1) = true := by simp [hk1]
      rw [if_pos hk1]
      simp only [b1, if_true]
      exact ⟨(hnx (by omega)).2, (hnx (by omega)).1, fun _ => rfl⟩
    · have b1 : (s.t.kind == 1) = false := by simp [hk1]
      rw [if_neg hk1]
      simp only [b1, Bool.false_eq_true, if_false]
      cases c1 : (s.t.text == s_tilde) with
      | true =>
        have hk := text_kind e1 c1
        rw [c1] at e1
        simp only [e1, if_true]
        exact ans_map (f := fun t : Tk => Tr.mk 3 s.t.pos [] (-(t.num : Int)) []) (ans_kind1 (hnx hk).2 (hnx hk).1) rfl (fun _ => rfl)
      | false =>
        rw [c1] at e1
        simp only [e1, Bool.false_eq_true, if_false]
        cases c2 : (s.t.text == w_true) with
        | true =>
          have hk := text_kind e2 c2
          rw [c2] at e2
          simp only [e2, if_true]
          exact ⟨(hnx hk).2, (hnx hk).1, fun _ => rfl⟩
        | false =>
          rw [c2] at e2
          simp only [e2, Bool.false_eq_true, if_false]
          cases c3 : (s.t.text == w_false) with
          | true =>
            have hk := text_kind e3 c3
            rw [c3] at e3
            simp only [e3, if_true]
            exact ⟨(hnx hk).2, (hnx hk).1, fun _ => rfl⟩
          | false =>
            rw [c3] at e3
            simp only [e3, Bool.false_eq_true, if_false]
            cases c4 : (s.t.text == s_lp) with
            | true =>
              have hk := text_kind e4 c4
              rw [c4] at e4
              simp only [e4, if_true]
              exact (round_same hE _).ans _ _ (hnx hk).2 (hnx hk).1
            | false =>
              rw [c4] at e4
              simp only [e4, Bool.false_eq_true, if_false]
              cases c5 : (s.t.text == s_ls) with
              | true =>
                have hk := text_kind e5 c5
                rw [c5] at e5
                simp only [e5, if_true]
                exact (square_same hE _).ans _ _ (hnx hk).2 (hnx hk).1
              | false =>
                rw [c5] at e5
                simp only [e5, Bool.false_eq_true, if_false]
                refine ⟨?_, by simp⟩
                simp [noA, ho]

theorem apps_keep {N : Nat} {EA : RS → Tr × RS} (n : Nat) (a : Tr) (s : RS) (h : okA s = false) : (appsA z N EA n a s).2.f = s.f := by
  cases n with
  | zero => simp [appsA, stuck_keep h]
  | succ n => simp [appsA, beginsA, h]
theorem apps_stop {N : Nat} {EB : List Tk → R Tr} (n : Nat) (a : Tr) (hz : z.fin.1 ≠ 0) : appsB z N EB n a [] = .error z.fin := by
  cases n with
  | zero => exact stuck_stop hz
  | succ n => exact stop_bnd (look_stop hz)
theorem apps_same {N : Nat} {EA : RS → Tr × RS} {EB : List Tk → R Tr} (hE : Sm z EA EB) : ∀ n a s ts, (∀ t ∈ ts, Gd t) → Fit z s ts → Ans z (appsA z N EA n a s) (appsB z N EB n a ts) := by
  intro n
  induction n with
  | zero => intro a s ts hg h; exact ans_stuck hg h
  | succ n ih =>
    intro a s ts hg h
    rw [appsB]
    refine ans_look hg h (fun hb => apps_keep _ _ _ hb) ?_
    intro ho hf hnx his
    have e : beginsA s = beginsB s.t := by
      simp only [beginsA, beginsB, ho, Bool.true_and, his _ key_tilde, his _ key_true, his _ key_false, his _ key_lp, his _ key_ls]
    rw [appsA, e]
    cases hb : beginsB s.t with
    | true =>
      simp only [if_true]
      refine ans_bnd ((atom_same (N := N) hE).ans s ts hg h) (fun hb => apps_keep _ _ _ hb) ?_ (fun x us hz hu => by subst hu; exact apps_stop _ _ hz)
      intro us hg2 h2 _
      exact ih _ _ _ hg2 h2
    | false =>
      simp only [Bool.false_eq_true, if_false]
      exact ⟨hg, h, fun _ => rfl⟩
theorem app_same {N : Nat} {EA : RS → Tr × RS} {EB : List Tk → R Tr} (hE : Sm z EA EB) : Sm z (appA z N EA) (appB z N EB) := by
  have hA := atom_same (N := N) hE
  have hkeep : ∀ s, okA s = false → (appA z N EA s).2.f = s.f := by
    intro s h
    have h1 := hA.keep s h
    simp only [appA, is_bad h, Bool.false_eq_true, if_false]
    rw [apps_keep _ _ _ (bad_of h h1), h1]
  refine ⟨hkeep, ?_, fun hz => stop_bnd (look_stop hz)⟩
  intro s ts hg h
  unfold appB
  refine ans_look hg h (hkeep s) ?_
  intro ho hf hnx his
  unfold appA
  have e1 := his _ key_do
  have e2 := his _ key_fst
  have e3 := his _ key_snd
  cases c1 : (s.t.text == w_do) with
  | true =>
    have hk := text_kind e1 c1
    rw [c1] at e1
    simp only [e1, if_true]
    refine ans_bnd (ans_kind2 (hnx hk).2 (hnx hk).1) (fun hb => hA.keep _ hb) ?_ (fun x us hz hu => by subst hu; exact stop_bnd (hA.stop hz))
    intro us hg2 h2 ho2
    obtain ⟨hi, hnm⟩ := name_of (z := z) (s := nextA z s) ho2
    refine ans_map (f := fun a => nm 19 s.t.pos (nextA z s).t.text [a]) (hA.ans _ _ hg2 h2) rfl (fun _ => ?_)
    simp only [hnm]
  | false =>
    rw [c1] at e1
    simp only [e1, Bool.false_eq_true, if_false]
    cases c2 : (s.t.text == w_fst) with
    | true =>
      have hk := text_kind e2 c2
      rw [c2] at e2
      simp only [e2, if_true]
      exact ans_map (f := fun a => nd 13 s.t.pos [a]) (hA.ans _ _ (hnx hk).2 (hnx hk).1) rfl (fun _ => rfl)
    | false =>
      rw [c2] at e2
      simp only [e2, Bool.false_eq_true, if_false]
      cases c3 : (s.t.text == w_snd) with
      | true =>
        have hk := text_kind e3 c3
        rw [c3] at e3
        simp only [e3, if_true]
        exact ans_map (f := fun a => nd 14 s.t.pos [a]) (hA.ans _ _ (hnx hk).2 (hnx hk).1) rfl (fun _ => rfl)
      | false =>
        rw [c3] at e3
        simp only [e3, Bool.false_eq_true, if_false]
        refine ans_bnd (hA.ans s ts hg h) (fun hb => apps_keep _ _ _ hb) ?_ (fun x us hz hu => by subst hu; exact apps_stop _ _ hz)
        intro us hg2 h2 _
        exact apps_same hE _ _ _ _ hg2 h2

theorem muls_keep {N : Nat} {EA : RS → Tr × RS} (n : Nat) (a : Tr) (s : RS) (h : okA s = false) : (mulsA z N EA n a s).2.f = s.f := by
  cases n with
  | zero => simp [mulsA, stuck_keep h]
  | succ n => simp [mulsA, is_bad h]
theorem muls_stop {N : Nat} {EB : List Tk → R Tr} (n : Nat) (a : Tr) (hz : z.fin.1 ≠ 0) : mulsB z N EB n a [] = .error z.fin := by
  cases n with
  | zero => exact stuck_stop hz
  | succ n => exact ite_stop hz
theorem muls_same {N : Nat} {EA : RS → Tr × RS} {EB : List Tk → R Tr} (hE : Sm z EA EB) : ∀ n a s ts, (∀ t ∈ ts, Gd t) → Fit z s ts → Ans z (mulsA z N EA n a s) (mulsB z N EB n a ts) := by
  have hA := app_same (N := N) hE
  intro n
  induction n with
  | zero => intro a s ts hg h; exact ans_stuck hg h
  | succ n ih =>
    intro a s ts hg h
    rw [mulsA, mulsB]
    refine ans_ite key_star hg h (fun hb => by simp [is_bad hb]) ?_ ?_
    · intro hi hg2 h2
      simp only [hi, if_true]
      refine ans_bnd (hA.ans _ _ hg2 h2) (fun hb => muls_keep _ _ _ hb) ?_ (fun x us hz hu => by subst hu; exact muls_stop _ _ hz)
      intro us hg3 h3 _
      exact ih _ _ _ hg3 h3
    · intro hi _
      simp only [hi, Bool.false_eq_true, if_false]
      exact ⟨hg, h, fun _ => rfl⟩
theorem mul_same {N : Nat} {EA : RS → Tr × RS} {EB : List Tk → R Tr} (hE : Sm z EA EB) : Sm z (mulA z N EA) (mulB z N EB) := by
  have hA := app_same (N := N) hE
  refine ⟨fun s h => ?_, ?_, fun hz => stop_bnd (hA.stop hz)⟩
  · have h1 := hA.keep s h
    rw [mulA, muls_keep _ _ _ (bad_of h h1), h1]
  · intro s ts hg h
    refine ans_bnd (hA.ans s ts hg h) (fun hb => muls_keep _ _ _ hb) ?_ (fun x us hz hu => by subst hu; exact muls_stop _ _ hz)
    intro us hg2 h2 _
    exact muls_same hE _ _ _ _ hg2 h2

theorem sums_keep {N : Nat} {EA : RS → Tr × RS} (n : Nat) (a : Tr) (s : RS) (h : okA s = false) : (sumsA z N EA n a s).2.f = s.f := by
  cases n with
  | zero => simp [sumsA, stuck_keep h]
  | succ n => simp [sumsA, is_bad h]
theorem sums_stop {N : Nat} {EB : List Tk → R Tr} (n : Nat) (a : Tr) (hz : z.fin.1 ≠ 0) : sumsB z N EB n a [] = .error z.fin := by
  cases n with
  | zero => exact stuck_stop hz
  | succ n => exact stop_bnd (look_stop hz)
theorem sums_same {N : Nat} {EA : RS → Tr × RS} {EB : List Tk → R Tr} (hE : Sm z EA EB) : ∀ n a s ts, (∀ t ∈ ts, Gd t) → Fit z s ts → Ans z (sumsA z N EA n a s) (sumsB z N EB n a ts) := by
  have hA := mul_same (N := N) hE
  intro n
  induction n with
  | zero => intro a s ts hg h; exact ans_stuck hg h
  | succ n ih =>
    intro a s ts hg h
    rw [sumsB]
    refine ans_look hg h (fun hb => sums_keep _ _ _ hb) ?_
    intro ho hf hnx his
    have e1 := his _ key_plus
    have e2 := his _ key_minus
    rw [sumsA]
    have go : s.t.kind ≠ 0 → Ans z (sumsA z N EA n (op2 s.t.text a (mulA z N EA (nextA z s)).1) (mulA z N EA (nextA z s)).2) (bnd (mulB z N EB ts.tail) fun b ts => sumsB z N EB n (op2 s.t.text a b) ts) := by
      intro hk
      refine ans_bnd (hA.ans _ _ (hnx hk).2 (hnx hk).1) (fun hb => sums_keep _ _ _ hb) ?_ (fun x us hz hu => by subst hu; exact sums_stop _ _ hz)
      intro us hg3 h3 _
      exact ih _ _ _ hg3 h3
    cases c1 : (s.t.text == s_plus) with
    | true =>
      have hk := text_kind e1 c1
      rw [c1] at e1
      simp only [e1, if_true]
      simp only [Bool.true_or, if_true]
      exact go hk
    | false =>
      rw [c1] at e1
      simp only [e1, Bool.false_eq_true, if_false]
      cases c2 : (s.t.text == s_minus) with
      | true =>
        have hk := text_kind e2 c2
        rw [c2] at e2
        simp only [e2, if_true]
        simp only [Bool.or_true, if_true]
        exact go hk
      | false =>
        rw [c2] at e2
        simp only [e2, Bool.false_eq_true, if_false]
        simp only [Bool.or_false, Bool.false_eq_true, if_false]
        exact ⟨hg, h, fun _ => rfl⟩
theorem sum_same {N : Nat} {EA : RS → Tr × RS} {EB : List Tk → R Tr} (hE : Sm z EA EB) : Sm z (sumA z N EA) (sumB z N EB) := by
  have hA := mul_same (N := N) hE
  refine ⟨fun s h => ?_, ?_, fun hz => stop_bnd (hA.stop hz)⟩
  · have h1 := hA.keep s h
    rw [sumA, sums_keep _ _ _ (bad_of h h1), h1]
  · intro s ts hg h
    refine ans_bnd (hA.ans s ts hg h) (fun hb => sums_keep _ _ _ hb) ?_ (fun x us hz hu => by subst hu; exact sums_stop _ _ hz)
    intro us hg2 h2 _
    exact sums_same hE _ _ _ _ hg2 h2
theorem cons_same {N : Nat} {EA : RS → Tr × RS} {EB : List Tk → R Tr} (hE : Sm z EA EB) : ∀ n, Sm z (consA z N EA n) (consB z N EB n) := by
  have hS := sum_same (N := N) hE
  intro n
  induction n with
  | zero => exact ⟨fun s h => by simp [consA, stuck_keep h], fun s ts hg h => ans_stuck hg h, fun hz => stuck_stop hz⟩
  | succ n ih =>
    refine ⟨?_, ?_, fun hz => stop_bnd (hS.stop hz)⟩
    · intro s h
      have h1 := hS.keep s h
      simp only [consA, is_bad (bad_of h h1), Bool.false_eq_true, if_false]
      exact h1
    · intro s ts hg h
      rw [consA, consB]
      refine ans_bnd (hS.ans s ts hg h) (fun hb => by simp [is_bad hb]) ?_ (fun x us hz hu => by subst hu; exact ite_stop hz)
      intro us hg2 h2 ho
      refine ans_ite key_cons hg2 h2 (fun hb => by simp [is_bad hb]) ?_ ?_
      · intro hi hg3 h3
        simp only [hi, if_true]
        exact ans_map (ih.ans _ _ hg3 h3) rfl (fun _ => rfl)
      · intro hi _
        simp only [hi, Bool.false_eq_true, if_false]
        exact ⟨hg2, h2, fun _ => rfl⟩
theorem comp_same {N : Nat} {EA : RS → Tr × RS} {EB : List Tk → R Tr} (hE : Sm z EA EB) : Sm z (compA z N EA) (compB z N EB) := by
  have hC := cons_same (N := N) hE N
  have hkeep : ∀ s, okA (consA z N EA N s).2 = false → (compA z N EA s).2.f = (consA z N EA N s).2.f := by
    intro s hb
    simp only [compA, is_bad hb, Bool.false_eq_true, if_false]
  refine ⟨?_, ?_, fun hz => stop_bnd (hC.stop hz)⟩
  · intro s h
    have h1 := hC.keep s h
    rw [hkeep s (bad_of h h1), h1]
  · intro s ts hg h
    unfold compB
    refine ans_bnd (hC.ans s ts hg h) (hkeep s) ?_ (fun x us hz hu => by subst hu; exact stop_bnd (look_stop hz))
    intro us hg2 h2 ho
    refine ans_look hg2 h2 (hkeep s) ?_
    intro ho2 hf hnx his
    have e1 := his _ key_eqeq
    have e2 := his _ key_lt
    unfold compA
    simp only []
    cases c1 : ((consA z N EA N s).2.t.text == s_eqeq) with
    | true =>
      have hk := text_kind e1 c1
      have ht := eq_of_beq c1
      rw [c1] at e1
      simp only [e1, if_true]
      simp only [Bool.true_or, if_true]
      refine ans_map (f := fun b => op2 (consA z N EA N s).2.t.text (consA z N EA N s).1 b) (hC.ans _ _ (hnx hk).2 (hnx hk).1) rfl (fun _ => by rw [ht])
    | false =>
      rw [c1] at e1
      simp only [e1, Bool.false_eq_true, if_false]
      cases c2 : ((consA z N EA N s).2.t.text == s_lt) with
      | true =>
        have hk := text_kind e2 c2
        have ht := eq_of_beq c2
        rw [c2] at e2
        simp only [e2, if_true]
        simp only [Bool.or_true, if_true]
        refine ans_map (f := fun b => op2 (consA z N EA N s).2.t.text (consA z N EA N s).1 b) (hC.ans _ _ (hnx hk).2 (hnx hk).1) rfl (fun _ => by rw [ht])
      | false =>
        rw [c2] at e2
        simp only [e2, Bool.false_eq_true, if_false]
        simp only [Bool.or_false, Bool.false_eq_true, if_false]
        exact ⟨hg2, h2, fun _ => rfl⟩
end
end Sy
end Go.Proofs.YtedppdcknkcbjaaGreatDoor

namespace Go.Proofs.YtedppdcknkcbjaaGreatDoor
namespace Sy
open Lx
section
variable {z : Env}

theorem key_rec : Key w_rec := key_word (by decide) (by decide)
theorem key_in : Key w_in := key_word (by decide) (by decide)
theorem key_let : Key w_let := key_word (by decide) (by decide)
theorem key_fn : Key w_fn := key_word (by decide) (by decide)
theorem key_if : Key w_if := key_word (by decide) (by decide)
theorem key_then : Key w_then := key_word (by decide) (by decide)
theorem key_else : Key w_else := key_word (by decide) (by decide)
theorem key_case : Key w_case := key_word (by decide) (by decide)
theorem key_of : Key w_of := key_word (by decide) (by decide)
theorem key_end : Key w_end := key_word (by decide) (by decide)
theorem key_handle : Key w_handle := key_word (by decide) (by decide)
theorem key_shallow : Key w_shallow := key_word (by decide) (by decide)
theorem key_with : Key w_with := key_word (by decide) (by decide)
theorem key_return : Key w_return := key_word (by decide) (by decide)
theorem key_op : Key w_op := key_word (by decide) (by decide)
theorem key_once : Key w_once := key_word (by decide) (by decide)
theorem key_many : Key w_many := key_word (by decide) (by decide)
theorem key_def : Key w_def := key_word (by decide) (by decide)
theorem key_main : Key w_main := key_word (by decide) (by decide)

/-- Behind a fault a row of steps keeps it. -/
theorem keep_must {s : RS} {x : List UInt8} {f : Nat × Nat} (h : okA s = false ∧ s.f = f) : okA (mustA z x s) = false ∧ (mustA z x s).f = f := by rw [must_bad h.1]; exact h
theorem keep_name {s : RS} {f : Nat × Nat} (h : okA s = false ∧ s.f = f) : okA (nameA z s).2 = false ∧ (nameA z s).2.f = f := by rw [name_bad h.1]; exact h
theorem keep_expr {EA : RS → Tr × RS} (hE : ∀ s, okA s = false → (EA s).2.f = s.f) {s : RS} {f : Nat × Nat} (h : okA s = false ∧ s.f = f) : okA (EA s).2 = false ∧ (EA s).2.f = f :=
  ⟨bad_of h.1 (hE s h.1), (hE s h.1).trans h.2⟩
theorem keep_start {s : RS} (h : okA s = false) : okA s = false ∧ s.f = s.f := ⟨h, rfl⟩

/-- The piece of a def or a let behind its name. -/
theorem bind_same {N : Nat} {EA : RS → Tr × RS} {EB : List Tk → R Tr} (hE : Sm z EA EB) {least : Nat} (hl : least ≤ 1) (s : RS) (ts : List Tk) (hg : ∀ t ∈ ts, Gd t) (h : Fit z s ts) :
    Ans z (((if isA w_rec s then (1 : Int) else 0), (nameA z (hasA z w_rec s)).1.1, (paramsA z EA s_eq N (isA w_rec s || decide (0 < least)) (nameA z (hasA z w_rec s)).2).1),
        (paramsA z EA s_eq N (isA w_rec s || decide (0 < least)) (nameA z (hasA z w_rec s)).2).2) (bindB z N EB least ts) := by
  unfold bindB
  have part : ∀ (k : Int) (ls : Nat) (hls : ls ≤ 1) (u : RS) (us : List Tk), (∀ t ∈ us, Gd t) → Fit z u us →
      Ans z ((k, (nameA z u).1.1, (paramsA z EA s_eq N (decide (0 < ls)) (nameA z u).2).1), (paramsA z EA s_eq N (decide (0 < ls)) (nameA z u).2).2)
        (bnd (kindB z 2 us) fun x ts => bnd (namesB z ls N [] ts) fun l ts => bnd (needB z s_eq ts) fun _ ts => bnd (EB ts) fun b ts => .ok ((k, x.text, fns l b), ts)) := by
    intro k ls hls u us hg2 h2
    refine ans_bnd (ans_kind2 hg2 h2) (fun hb => params_keep hE.keep _ _ _ _ hb) ?_ (fun y vs hz hu => by subst hu; exact stop_bnd (names_stop hz))
    intro vs hg3 h3 ho
    obtain ⟨hi, hnm⟩ := name_of (z := z) (s := u) ho
    have hp := params_same hE key_eq hls N [] (nameA z u).2 vs hg3 h3
    have e : (bnd (namesB z ls N [] vs) fun l ts => bnd (needB z s_eq ts) fun _ ts => bnd (EB ts) fun b ts => (.ok ((k, u.t.text, fns l b), ts) : R (Int × List UInt8 × Tr)))
        = bnd (bnd (namesB z ls N [] vs) fun l ts => bnd (needB z s_eq ts) fun _ ts => bnd (EB ts) fun b ts => .ok (fns l b, ts)) fun T ts => .ok ((k, u.t.text, T), ts) := by
      rw [bnd_assoc]
      congr 1
      funext l ts
      rw [bnd_assoc]
      congr 1
      funext _ ts
      rw [bnd_assoc]
      rfl
    rw [e]
    refine ans_map (f := fun T => (k, u.t.text, T)) hp rfl (fun _ => ?_)
    rw [hnm]
    rfl
  refine ans_ite key_rec hg h (fun hb => ?_) ?_ ?_
  · rw [has_bad hb, name_bad hb]
    exact params_keep hE.keep _ _ _ _ hb
  · intro hi hg2 h2
    have e : hasA z w_rec s = nextA z s := by simp [hasA, hi]
    rw [e]
    have := part 1 1 (by omega) _ _ hg2 h2
    simpa [hi] using this
  · intro hi ho
    have e : hasA z w_rec s = s := by simp [hasA, hi]
    rw [e]
    have := part 0 least hl _ _ hg h
    simpa [hi] using this
end
end Sy
end Go.Proofs.YtedppdcknkcbjaaGreatDoor

namespace Go.Proofs.YtedppdcknkcbjaaGreatDoor
namespace Sy
open Lx
section
variable {z : Env} {N : Nat} {EA : RS → Tr × RS} {EB : List Tk → R Tr}

theorem let_rest (hE : Sm z EA EB) (p : Nat) (u : RS) (us : List Tk) (hg : ∀ t ∈ us, Gd t) (h : Fit z u us) :
    Ans z (letA z N EA p u) (bnd (bindB z N EB 0 us) fun d ts => bnd (needB z w_in ts) fun _ ts => bnd (EB ts) fun b ts => .ok (.mk 9 p d.2.1 d.1 [d.2.2, b], ts)) := by
  have hb := bind_same (N := N) hE (least := 0) (by omega) u us hg h
  simp only [Nat.lt_irrefl, decide_false, Bool.or_false] at hb
  refine ans_bnd hb (fun hk => ?_) ?_ (fun y vs hz hu => by subst hu; exact stop_bnd (need_stop hz))
  · exact (keep_expr hE.keep (keep_must (x := w_in) (keep_start hk))).2
  · intro vs hg2 h2 _
    refine ans_bnd (ans_must key_in hg2 h2) (fun hk => hE.keep _ hk) ?_ (fun y vs hz hu => by subst hu; exact stop_bnd (hE.stop hz))
    intro ws hg3 h3 _
    exact ans_map (hE.ans _ _ hg3 h3) rfl (fun _ => rfl)
theorem fn_rest (hE : Sm z EA EB) (p : Nat) (u : RS) (us : List Tk) (hg : ∀ t ∈ us, Gd t) (h : Fit z u us) :
    Ans z ((paramsA z EA s_to N true u).1.at p, (paramsA z EA s_to N true u).2) (bnd (namesB z 1 N [] us) fun l ts => bnd (needB z s_to ts) fun _ ts => bnd (EB ts) fun b ts => .ok ((fns l b).at p, ts)) := by
  have hp := params_same hE key_to (least := 1) (by omega) N [] u us hg h
  have e : (bnd (namesB z 1 N [] us) fun l ts => bnd (needB z s_to ts) fun _ ts => bnd (EB ts) fun b ts => (.ok ((fns l b).at p, ts) : R Tr))
      = bnd (bnd (namesB z 1 N [] us) fun l ts => bnd (needB z s_to ts) fun _ ts => bnd (EB ts) fun b ts => .ok (fns l b, ts)) fun T ts => .ok (T.at p, ts) := by
    rw [bnd_assoc]
    congr 1
    funext l ts
    rw [bnd_assoc]
    congr 1
    funext _ ts
    rw [bnd_assoc]
    rfl
  rw [e]
  exact ans_map (g := ((paramsA z EA s_to N true u).1.at p, (paramsA z EA s_to N true u).2)) (f := fun T => T.at p) hp rfl (fun _ => rfl)
theorem if_rest (hE : Sm z EA EB) (p : Nat) (u : RS) (us : List Tk) (hg : ∀ t ∈ us, Gd t) (h : Fit z u us) :
    Ans z (nd 11 p [(EA u).1, (EA (mustA z w_then (EA u).2)).1, (EA (mustA z w_else (EA (mustA z w_then (EA u).2)).2)).1], (EA (mustA z w_else (EA (mustA z w_then (EA u).2)).2)).2)
      (bnd (EB us) fun a ts => bnd (needB z w_then ts) fun _ ts => bnd (EB ts) fun b ts => bnd (needB z w_else ts) fun _ ts => bnd (EB ts) fun c ts => .ok (nd 11 p [a, b, c], ts)) := by
  refine ans_bnd (hE.ans _ _ hg h) (fun hk => (keep_expr hE.keep (keep_must (keep_expr hE.keep (keep_must (keep_start hk))))).2) ?_ (fun y vs hz hu => by subst hu; exact stop_bnd (need_stop hz))
  intro vs hg2 h2 _
  refine ans_bnd (ans_must key_then hg2 h2) (fun hk => (keep_expr hE.keep (keep_must (keep_expr hE.keep (keep_start hk)))).2) ?_ (fun y vs hz hu => by subst hu; exact stop_bnd (hE.stop hz))
  intro vs hg3 h3 _
  refine ans_bnd (hE.ans _ _ hg3 h3) (fun hk => (keep_expr hE.keep (keep_must (keep_start hk))).2) ?_ (fun y vs hz hu => by subst hu; exact stop_bnd (need_stop hz))
  intro vs hg4 h4 _
  refine ans_bnd (ans_must key_else hg4 h4) (fun hk => hE.keep _ hk) ?_ (fun y vs hz hu => by subst hu; exact stop_bnd (hE.stop hz))
  intro vs hg5 h5 _
  exact ans_map (hE.ans _ _ hg5 h5) rfl (fun _ => rfl)

theorem named_eq {α : Type} (ts : List Tk) (f : Tr → List Tk → R α) : bnd (namedB z ts) f = bnd (bnd (kindB z 2 ts) fun t ts => .ok ((t.text, t.pos), ts)) fun q ts => f (nm 23 q.2 q.1 []) ts := by
  rw [namedB, bnd_assoc, bnd_assoc]
  rfl

end
end Sy
end Go.Proofs.YtedppdcknkcbjaaGreatDoor

namespace Go.Proofs.YtedppdcknkcbjaaGreatDoor
namespace Sy
open Lx
section
variable {z : Env} {EA : RS → Tr × RS} {EB : List Tk → R Tr}

set_option maxHeartbeats 1000000 in
theorem cases_rest (hE : Sm z EA EB) (p : Nat) (u : RS) (us : List Tk) (hg : ∀ t ∈ us, Gd t) (h : Fit z u us) :
    Ans z (casesA z EA p u) (bnd (EB us) fun e ts => bnd (needB z w_of ts) fun _ ts => bnd (needB z s_ls ts) fun _ ts => bnd (needB z s_rs ts) fun _ ts => bnd (needB z s_to ts) fun _ ts =>
      bnd (EB ts) fun a ts => bnd (needB z s_bar ts) fun _ ts => bnd (namedB z ts) fun x ts => bnd (needB z s_cons ts) fun _ ts => bnd (namedB z ts) fun y ts => bnd (needB z s_to ts) fun _ ts =>
      bnd (EB ts) fun b ts => bnd (needB z w_end ts) fun _ ts => .ok (nd 17 p [e, a, x, y, b], ts)) := by
  unfold casesA
  simp only []
  have A1 := hE.ans u _ hg h
  generalize EA u = v1 at A1 ⊢
  refine ans_bnd A1 (fun hk => (keep_must (keep_expr hE.keep (keep_must (keep_name (keep_must (keep_name (keep_must (keep_expr hE.keep (keep_must (keep_must (keep_must (keep_must (keep_start hk))))))))))))).2) ?_ (fun y vs hz hu => by subst hu; exact stop_bnd (need_stop hz))
  intro us1 hg1 h1 ho1
  have A2 := ans_must (z := z) (x := w_of) key_of hg1 h1
  generalize mustA z w_of v1.2 = v2 at A2 ⊢
  refine ans_bnd A2 (fun hk => (keep_must (keep_expr hE.keep (keep_must (keep_name (keep_must (keep_name (keep_must (keep_expr hE.keep (keep_must (keep_must (keep_must (keep_start hk)))))))))))).2) ?_ (fun y vs hz hu => by subst hu; exact stop_bnd (need_stop hz))
  intro us2 hg2 h2 ho2
  have A3 := ans_must (z := z) (x := s_ls) key_ls hg2 h2
  generalize mustA z s_ls v2 = v3 at A3 ⊢
  refine ans_bnd A3 (fun hk => (keep_must (keep_expr hE.keep (keep_must (keep_name (keep_must (keep_name (keep_must (keep_expr hE.keep (keep_must (keep_must (keep_start hk))))))))))).2) ?_ (fun y vs hz hu => by subst hu; exact stop_bnd (need_stop hz))
  intro us3 hg3 h3 ho3
  have A4 := ans_must (z := z) (x := s_rs) key_rs hg3 h3
  generalize mustA z s_rs v3 = v4 at A4 ⊢
  refine ans_bnd A4 (fun hk => (keep_must (keep_expr hE.keep (keep_must (keep_name (keep_must (keep_name (keep_must (keep_expr hE.keep (keep_must (keep_start hk)))))))))).2) ?_ (fun y vs hz hu => by subst hu; exact stop_bnd (need_stop hz))
  intro us4 hg4 h4 ho4
  have A5 := ans_must (z := z) (x := s_to) key_to hg4 h4
  generalize mustA z s_to v4 = v5 at A5 ⊢
  refine ans_bnd A5 (fun hk => (keep_must (keep_expr hE.keep (keep_must (keep_name (keep_must (keep_name (keep_must (keep_expr hE.keep (keep_start hk))))))))).2) ?_ (fun y vs hz hu => by subst hu; exact stop_bnd (hE.stop hz))
  intro us5 hg5 h5 ho5
  have A6 := hE.ans v5 _ hg5 h5
  generalize EA v5 = v6 at A6 ⊢
  refine ans_bnd A6 (fun hk => (keep_must (keep_expr hE.keep (keep_must (keep_name (keep_must (keep_name (keep_must (keep_start hk)))))))).2) ?_ (fun y vs hz hu => by subst hu; exact stop_bnd (need_stop hz))
  intro us6 hg6 h6 ho6
  have A7 := ans_must (z := z) (x := s_bar) key_bar hg6 h6
  generalize mustA z s_bar v6.2 = v7 at A7 ⊢
  refine ans_bnd A7 (fun hk => (keep_must (keep_expr hE.keep (keep_must (keep_name (keep_must (keep_name (keep_start hk))))))).2) ?_ (fun y vs hz hu => by subst hu; exact stop_bnd (stop_bnd (kind_stop hz)))
  intro us7 hg7 h7 ho7
  rw [named_eq]
  have A8 := ans_name (z := z) hg7 h7
  generalize nameA z v7 = v8 at A8 ⊢
  refine ans_bnd A8 (fun hk => (keep_must (keep_expr hE.keep (keep_must (keep_name (keep_must (keep_start hk)))))).2) ?_ (fun y vs hz hu => by subst hu; exact stop_bnd (need_stop hz))
  intro us8 hg8 h8 ho8
  have A9 := ans_must (z := z) (x := s_cons) key_cons hg8 h8
  generalize mustA z s_cons v8.2 = v9 at A9 ⊢
  refine ans_bnd A9 (fun hk => (keep_must (keep_expr hE.keep (keep_must (keep_name (keep_start hk))))).2) ?_ (fun y vs hz hu => by subst hu; exact stop_bnd (stop_bnd (kind_stop hz)))
  intro us9 hg9 h9 ho9
  rw [named_eq]
  have A10 := ans_name (z := z) hg9 h9
  generalize nameA z v9 = v10 at A10 ⊢
  refine ans_bnd A10 (fun hk => (keep_must (keep_expr hE.keep (keep_must (keep_start hk)))).2) ?_ (fun y vs hz hu => by subst hu; exact stop_bnd (need_stop hz))
  intro us10 hg10 h10 ho10
  have A11 := ans_must (z := z) (x := s_to) key_to hg10 h10
  generalize mustA z s_to v10.2 = v11 at A11 ⊢
  refine ans_bnd A11 (fun hk => (keep_must (keep_expr hE.keep (keep_start hk))).2) ?_ (fun y vs hz hu => by subst hu; exact stop_bnd (hE.stop hz))
  intro us11 hg11 h11 ho11
  have A12 := hE.ans v11 _ hg11 h11
  generalize EA v11 = v12 at A12 ⊢
  refine ans_bnd A12 (fun hk => (keep_must (keep_start hk)).2) ?_ (fun y vs hz hu => by subst hu; exact stop_bnd (need_stop hz))
  intro us12 hg12 h12 ho12
  have A13 := ans_must (z := z) (x := w_end) key_end hg12 h12
  generalize mustA z w_end v12.2 = v13 at A13 ⊢
  exact ans_map (f := fun _ => nd 17 p [v1.1, v6.1, nm 23 v8.1.2 v8.1.1 [], nm 23 v10.1.2 v10.1.1 [], v12.1]) A13 rfl (fun _ => rfl)
end
end Sy
end Go.Proofs.YtedppdcknkcbjaaGreatDoor

namespace Go.Proofs.YtedppdcknkcbjaaGreatDoor
namespace Sy
open Lx
section
variable {z : Env} {N : Nat} {EA : RS → Tr × RS} {EB : List Tk → R Tr}

theorem kind_eq {α : Type} (ts : List Tk) (F : List UInt8 × Nat → List Tk → R α) : (bnd (kindB z 2 ts) fun t ts => F (t.text, t.pos) ts) = bnd (bnd (kindB z 2 ts) fun t ts => .ok ((t.text, t.pos), ts)) F := by
  rw [bnd_assoc]
  rfl
theorem clause_same (hE : Sm z EA EB) (u : RS) (us : List Tk) (hg : ∀ t ∈ us, Gd t) (h : Fit z u us) :
    Ans z (nm 22 (nameA z u).1.2 (nameA z u).1.1 [nm 23 (nameA z (nameA z u).2).1.2 (nameA z (nameA z u).2).1.1 [], nm 23 (nameA z (nameA z (nameA z u).2).2).1.2 (nameA z (nameA z (nameA z u).2).2).1.1 [], (EA (mustA z s_to (nameA z (nameA z (nameA z u).2).2).2)).1],
      (EA (mustA z s_to (nameA z (nameA z (nameA z u).2).2).2)).2) (clauseB z EB us) := by
  unfold clauseB
  rw [kind_eq us (fun o ts => bnd (namedB z ts) fun y ts => bnd (namedB z ts) fun k ts => bnd (needB z s_to ts) fun _ ts => bnd (EB ts) fun c ts => .ok (nm 22 o.2 o.1 [y, k, c], ts))]
  have A1 := ans_name (z := z) hg h
  generalize nameA z u = v1 at A1 ⊢
  refine ans_bnd A1 (fun hk => (keep_expr hE.keep (keep_must (keep_name (keep_name (keep_start hk))))).2) ?_ (fun y vs hz hu => by subst hu; exact stop_bnd (stop_bnd (kind_stop hz)))
  intro us1 hg1 h1 ho1
  rw [named_eq]
  have A2 := ans_name (z := z) hg1 h1
  generalize nameA z v1.2 = v2 at A2 ⊢
  refine ans_bnd A2 (fun hk => (keep_expr hE.keep (keep_must (keep_name (keep_start hk)))).2) ?_ (fun y vs hz hu => by subst hu; exact stop_bnd (stop_bnd (kind_stop hz)))
  intro us2 hg2 h2 ho2
  rw [named_eq]
  have A3 := ans_name (z := z) hg2 h2
  generalize nameA z v2.2 = v3 at A3 ⊢
  refine ans_bnd A3 (fun hk => (keep_expr hE.keep (keep_must (keep_start hk))).2) ?_ (fun y vs hz hu => by subst hu; exact stop_bnd (need_stop hz))
  intro us3 hg3 h3 ho3
  have A4 := ans_must (z := z) (x := s_to) key_to hg3 h3
  generalize mustA z s_to v3.2 = v4 at A4 ⊢
  refine ans_bnd A4 (fun hk => (keep_expr hE.keep (keep_start hk)).2) ?_ (fun y vs hz hu => by subst hu; exact stop_bnd (hE.stop hz))
  intro us4 hg4 h4 ho4
  have A5 := hE.ans v4 _ hg4 h4
  generalize EA v4 = v5 at A5 ⊢
  exact ans_map (f := fun c => nm 22 v1.1.2 v1.1.1 [nm 23 v2.1.2 v2.1.1 [], nm 23 v3.1.2 v3.1.1 [], c]) A5 rfl (fun _ => rfl)
theorem clauses_keep (n : Nat) (l : List Tr) (s : RS) (h : okA s = false) : (clausesA z EA n l s).2.f = s.f := by
  cases n with
  | zero => simp [clausesA, stuck_keep h]
  | succ n => simp [clausesA, is_bad h]
theorem clauses_stop (n : Nat) (l : List Tr) (hz : z.fin.1 ≠ 0) : clausesB z EB n l [] = .error z.fin := by
  cases n with
  | zero => exact stuck_stop hz
  | succ n => exact ite_stop hz
theorem clauses_same (hE : Sm z EA EB) : ∀ n l s ts, (∀ t ∈ ts, Gd t) → Fit z s ts → Ans z (clausesA z EA n l s) (clausesB z EB n l ts) := by
  intro n
  induction n with
  | zero => intro l s ts hg h; exact ans_stuck hg h
  | succ n ih =>
    intro l s ts hg h
    rw [clausesA, clausesB]
    refine ans_ite key_bar hg h (fun hb => by simp [is_bad hb]) ?_ ?_
    · intro hi hg2 h2
      simp only [hi, if_true]
      refine ans_bnd (clause_same hE _ _ hg2 h2) (fun hb => clauses_keep _ _ _ hb) ?_ (fun x us hz hu => by subst hu; exact clauses_stop _ _ hz)
      intro us hg3 h3 _
      exact ih _ _ _ hg3 h3
    · intro hi _
      simp only [hi, Bool.false_eq_true, if_false]
      exact ⟨hg, h, fun _ => rfl⟩
theorem ret_same (hE : Sm z EA EB) (u : RS) (us : List Tk) (hg : ∀ t ∈ us, Gd t) (h : Fit z u us) :
    Ans z (nm 21 u.t.pos (nameA z (mustA z w_return u)).1.1 [(EA (mustA z s_to (nameA z (mustA z w_return u)).2)).1], (EA (mustA z s_to (nameA z (mustA z w_return u)).2)).2) (retB z EB us) := by
  unfold retB
  refine ans_look hg h (fun hk => (keep_expr hE.keep (keep_must (keep_name (keep_must (keep_start hk))))).2) ?_
  intro ho hf hnx his
  generalize u.t.pos = pp
  clear ho hf hnx his
  have A1 := ans_must (z := z) (x := w_return) key_return hg h
  generalize mustA z w_return u = v1 at A1 ⊢
  refine ans_bnd A1 (fun hk => (keep_expr hE.keep (keep_must (keep_name (keep_start hk)))).2) ?_ (fun y vs hz hu => by subst hu; exact stop_bnd (kind_stop hz))
  intro us1 hg1 h1 ho1
  rw [kind_eq us1 (fun x ts => bnd (needB z s_to ts) fun _ ts => bnd (EB ts) fun b ts => .ok (nm 21 pp x.1 [b], ts))]
  have A2 := ans_name (z := z) hg1 h1
  generalize nameA z v1 = v2 at A2 ⊢
  refine ans_bnd A2 (fun hk => (keep_expr hE.keep (keep_must (keep_start hk))).2) ?_ (fun y vs hz hu => by subst hu; exact stop_bnd (need_stop hz))
  intro us2 hg2 h2 ho2
  have A3 := ans_must (z := z) (x := s_to) key_to hg2 h2
  generalize mustA z s_to v2.2 = v3 at A3 ⊢
  refine ans_bnd A3 (fun hk => (keep_expr hE.keep (keep_start hk)).2) ?_ (fun y vs hz hu => by subst hu; exact stop_bnd (hE.stop hz))
  intro us3 hg3 h3 ho3
  exact ans_map (f := fun b => nm 21 pp v2.1.1 [b]) (hE.ans _ _ hg3 h3) rfl (fun _ => rfl)
theorem ret_stop (hz : z.fin.1 ≠ 0) : retB z EB [] = .error z.fin := stop_bnd (look_stop hz)
/-- A handler, behind its word. -/
theorem handle_rest (hE : Sm z EA EB) (p : Nat) (num : Int) (u : RS) (us : List Tk) (hg : ∀ t ∈ us, Gd t) (h : Fit z u us) :
    Ans z (let e := EA u; let w := mustA z s_lb (mustA z w_with e.2); let x := nameA z (mustA z w_return w); let b := EA (mustA z s_to x.2); let l := clausesA z EA N [e.1, nm 21 w.t.pos x.1.1 [b.1]] b.2; ((Tr.mk 20 p [] num l.1, mustA z s_rb l.2) : Tr × RS))
      (bnd (EB us) fun e ts => bnd (needB z w_with ts) fun _ ts => bnd (needB z s_lb ts) fun _ ts => bnd (retB z EB ts) fun r ts =>
        bnd (clausesB z EB N [e, r] ts) fun l ts => bnd (needB z s_rb ts) fun _ ts => .ok (.mk 20 p [] num l, ts)) := by
  simp only []
  have kc : ∀ {v : RS} {f : Nat × Nat} {l : List Tr}, okA v = false ∧ v.f = f → okA (clausesA z EA N l v).2 = false ∧ (clausesA z EA N l v).2.f = f := fun hv => ⟨bad_of hv.1 (clauses_keep _ _ _ hv.1), (clauses_keep _ _ _ hv.1).trans hv.2⟩
  have A1 := hE.ans u _ hg h
  generalize EA u = v1 at A1 ⊢
  refine ans_bnd A1 (fun hk => (keep_must (kc (keep_expr hE.keep (keep_must (keep_name (keep_must (keep_must (keep_must (keep_start hk))))))))).2) ?_ (fun y vs hz hu => by subst hu; exact stop_bnd (need_stop hz))
  intro us1 hg1 h1 ho1
  have A2 := ans_must (z := z) (x := w_with) key_with hg1 h1
  generalize mustA z w_with v1.2 = v2 at A2 ⊢
  refine ans_bnd A2 (fun hk => (keep_must (kc (keep_expr hE.keep (keep_must (keep_name (keep_must (keep_must (keep_start hk)))))))).2) ?_ (fun y vs hz hu => by subst hu; exact stop_bnd (need_stop hz))
  intro us2 hg2 h2 ho2
  have A3 := ans_must (z := z) (x := s_lb) key_lb hg2 h2
  generalize mustA z s_lb v2 = v3 at A3 ⊢
  refine ans_bnd A3 (fun hk => (keep_must (kc (keep_expr hE.keep (keep_must (keep_name (keep_must (keep_start hk))))))).2) ?_ (fun y vs hz hu => by subst hu; exact stop_bnd (ret_stop hz))
  intro us3 hg3 h3 ho3
  have A4 := ret_same hE v3 _ hg3 h3
  generalize nameA z (mustA z w_return v3) = v4 at A4 ⊢
  generalize EA (mustA z s_to v4.2) = v5 at A4 ⊢
  refine ans_bnd A4 (fun hk => (keep_must (kc (keep_start hk))).2) ?_ (fun y vs hz hu => by subst hu; exact stop_bnd (clauses_stop _ _ hz))
  intro us4 hg4 h4 ho4
  have A5 := clauses_same hE N [v1.1, nm 21 v3.t.pos v4.1.1 [v5.1]] v5.2 _ hg4 h4
  generalize clausesA z EA N [v1.1, nm 21 v3.t.pos v4.1.1 [v5.1]] v5.2 = v6 at A5 ⊢
  refine ans_bnd A5 (fun hk => must_f hk) ?_ (fun y vs hz hu => by subst hu; exact stop_bnd (need_stop hz))
  intro us5 hg5 h5 ho5
  exact ans_map (f := fun _ => Tr.mk 20 p [] num v6.1) (ans_must key_rb hg5 h5) rfl (fun _ => rfl)
end
end Sy
end Go.Proofs.YtedppdcknkcbjaaGreatDoor

namespace Go.Proofs.YtedppdcknkcbjaaGreatDoor
namespace Sy
open Lx
section
variable {z : Env} {N : Nat}

theorem any_same {EA : RS → Tr × RS} {EB : List Tk → R Tr} (hE : Sm z EA EB) : Sm z (anyA z N EA) (anyB z N EB) := by
  have hC := comp_same (N := N) hE
  have hkeep : ∀ s, okA s = false → (anyA z N EA s).2.f = s.f := by
    intro s h
    have h1 := hC.keep s h
    have h2 := bad_of h h1
    simp only [anyA, is_bad h, is_bad h2, Bool.or_self, Bool.false_eq_true, if_false]
    exact h1
  refine ⟨hkeep, ?_, fun hz => stop_bnd (look_stop hz)⟩
  intro s ts hg h
  unfold anyB
  rcases look_cases hg h with ⟨l1, l2⟩ | ⟨l1, l2, l3, hnx, l5⟩
  · rw [l1, bnd_err]
    exact ⟨hkeep s l2, okA_ne l2⟩
  · rw [l1, bnd_ok]
    have his : ∀ x, Key x → isA x s = (s.t.text == x) := fun x hx => is_of hx l2 l5
    have htk : takeB z ts = .ok (s.t, ts.tail) := by rw [takeB, l1, bnd_ok]
    have e1 := his _ key_let
    have e2 := his _ key_fn
    have e3 := his _ key_if
    have e4 := his _ key_case
    have e5 := his _ key_handle
    have e6 := his _ key_shallow
    unfold anyA
    cases c1 : (s.t.text == w_let) with
    | true =>
      have hk := text_kind e1 c1
      rw [c1] at e1
      simp only [e1, if_true]
      rw [letB, htk, bnd_ok]
      exact let_rest hE _ _ _ (hnx hk).2 (hnx hk).1
    | false =>
      rw [c1] at e1
      simp only [e1, Bool.false_eq_true, if_false]
      cases c2 : (s.t.text == w_fn) with
      | true =>
        have hk := text_kind e2 c2
        rw [c2] at e2
        simp only [e2, if_true]
        rw [fnB, htk, bnd_ok]
        exact fn_rest hE _ _ _ (hnx hk).2 (hnx hk).1
      | false =>
        rw [c2] at e2
        simp only [e2, Bool.false_eq_true, if_false]
        cases c3 : (s.t.text == w_if) with
        | true =>
          have hk := text_kind e3 c3
          rw [c3] at e3
          simp only [e3, if_true]
          rw [ifB, htk, bnd_ok]
          exact if_rest hE _ _ _ (hnx hk).2 (hnx hk).1
        | false =>
          rw [c3] at e3
          simp only [e3, Bool.false_eq_true, if_false]
          cases c4 : (s.t.text == w_case) with
          | true =>
            have hk := text_kind e4 c4
            rw [c4] at e4
            simp only [e4, if_true]
            rw [casesB, htk, bnd_ok]
            exact cases_rest hE _ _ _ (hnx hk).2 (hnx hk).1
          | false =>
            rw [c4] at e4
            simp only [e4, Bool.false_eq_true, if_false]
            cases c5 : (s.t.text == w_handle) with
            | true =>
              have hk := text_kind e5 c5
              have ht := eq_of_beq c5
              rw [c5] at e5
              simp only [e5, Bool.true_or, if_true]
              rw [handleB, htk, bnd_ok]
              have hs : (s.t.text == w_shallow) = false := by rw [ht]; decide
              rw [hs]
              have hh := handle_rest (N := N) hE s.t.pos 0 _ _ (hnx hk).2 (hnx hk).1
              simp only [handleA, e5, if_true]
              exact hh
            | false =>
              rw [c5] at e5
              simp only [e5, Bool.false_or]
              cases c6 : (s.t.text == w_shallow) with
              | true =>
                have hk := text_kind e6 c6
                rw [c6] at e6
                simp only [e6, if_true]
                rw [handleB, htk, bnd_ok, c6]
                have hh := handle_rest (N := N) hE s.t.pos 1 _ _ (hnx hk).2 (hnx hk).1
                simp only [handleA, e5, Bool.false_eq_true, if_false]
                exact hh
              | false =>
                rw [c6] at e6
                simp only [e6, Bool.false_eq_true, if_false]
                unfold seqB
                refine ans_bnd (hC.ans s ts hg h) (fun hb => by simp [is_bad hb]) ?_ (fun x us hz hu => by subst hu; exact ite_stop hz)
                intro us hg2 h2 ho
                refine ans_ite key_semi hg2 h2 (fun hb => by simp [is_bad hb]) ?_ ?_
                · intro hi hg3 h3
                  simp only [hi, if_true]
                  exact ans_map (hE.ans _ _ hg3 h3) rfl (fun _ => rfl)
                · intro hi _
                  simp only [hi, Bool.false_eq_true, if_false]
                  exact ⟨hg2, h2, fun _ => rfl⟩

theorem expr_same : ∀ k, Sm z (exprA z N k) (exprB z N k) := by
  intro k
  induction k with
  | zero =>
    refine ⟨fun s h => by simp [exprA, h], ?_, fun hz => stop_bnd (look_stop hz)⟩
    intro s ts hg h
    rw [exprB]
    refine ans_look hg h (fun hb => by simp [exprA, hb]) ?_
    intro ho hf hnx his
    simp only [exprA, ho, if_true]
    exact ⟨rfl, by simp⟩
  | succ k ih =>
    have hB := any_same (N := N) ih
    refine ⟨fun s h => by simp [exprA, h], ?_, fun hz => stop_bnd (look_stop hz)⟩
    intro s ts hg h
    rw [exprB]
    refine ans_look hg h (fun hb => by simp [exprA, hb]) ?_
    intro ho hf hnx his
    simp only [exprA, ho, if_true]
    exact hB.ans s ts hg h

theorem op_rest (hN : N ≠ 0) (p : Nat) (num : Int) (v : RS) (vs : List Tk) (hg : ∀ t ∈ vs, Gd t) (h : Fit z v vs) :
    Ans z (let x := nameA z v; let a := typA z N 200 (mustA z s_colon x.2); let b := typA z N 200 (mustA z s_to a.2); ((Tr.mk 1 p x.1.1 num [a.1, b.1], b.2) : Tr × RS))
      (bnd (kindB z 2 vs) fun x ts => bnd (needB z s_colon ts) fun _ ts => bnd (typB z N 200 ts) fun a ts => bnd (needB z s_to ts) fun _ ts => bnd (typB z N 200 ts) fun b ts => .ok (.mk 1 p x.text num [a, b], ts)) := by
  have hT := typ_same (z := z) hN 200
  simp only []
  rw [kind_eq vs (fun x ts => bnd (needB z s_colon ts) fun _ ts => bnd (typB z N 200 ts) fun a ts => bnd (needB z s_to ts) fun _ ts => bnd (typB z N 200 ts) fun b ts => .ok (Tr.mk 1 p x.1 num [a, b], ts))]
  have A1 := ans_name (z := z) hg h
  generalize nameA z v = v1 at A1 ⊢
  refine ans_bnd A1 (fun hk => (keep_expr hT.keep (keep_must (keep_expr hT.keep (keep_must (keep_start hk))))).2) ?_ (fun y vs hz hu => by subst hu; exact stop_bnd (need_stop hz))
  intro us1 hg1 h1 ho1
  have A2 := ans_must (z := z) (x := s_colon) key_colon hg1 h1
  generalize mustA z s_colon v1.2 = v2 at A2 ⊢
  refine ans_bnd A2 (fun hk => (keep_expr hT.keep (keep_must (keep_expr hT.keep (keep_start hk)))).2) ?_ (fun y vs hz hu => by subst hu; exact stop_bnd (hT.stop hz))
  intro us2 hg2 h2 ho2
  have A3 := hT.ans v2 _ hg2 h2
  generalize typA z N 200 v2 = v3 at A3 ⊢
  refine ans_bnd A3 (fun hk => (keep_expr hT.keep (keep_must (keep_start hk))).2) ?_ (fun y vs hz hu => by subst hu; exact stop_bnd (need_stop hz))
  intro us3 hg3 h3 ho3
  have A4 := ans_must (z := z) (x := s_to) key_to hg3 h3
  generalize mustA z s_to v3.2 = v4 at A4 ⊢
  refine ans_bnd A4 (fun hk => hT.keep _ hk) ?_ (fun y vs hz hu => by subst hu; exact stop_bnd (hT.stop hz))
  intro us4 hg4 h4 ho4
  exact ans_map (f := fun b => Tr.mk 1 p v1.1.1 num [v3.1, b]) (hT.ans _ _ hg4 h4) rfl (fun _ => rfl)
theorem ops_keep (n : Nat) (l : List Tr) (s : RS) (h : okA s = false) : (opsA z N n l s).2.f = s.f := by
  cases n with
  | zero => simp [opsA, stuck_keep h]
  | succ n => simp [opsA, is_bad h]
theorem ops_stop (n : Nat) (l : List Tr) (hz : z.fin.1 ≠ 0) : opsB z N n l [] = .error z.fin := by
  cases n with
  | zero => exact stuck_stop hz
  | succ n => exact stop_bnd (look_stop hz)
/-- One operation of a program. -/
def opA (z : Env) (N : Nat) (s : RS) : Tr × RS :=
  let u := nextA z s
  let v := if isA w_once u || isA w_many u then nextA z u else noA u
  let x := nameA z v
  let a := typA z N 200 (mustA z s_colon x.2)
  let b := typA z N 200 (mustA z s_to a.2)
  (.mk 1 s.t.pos x.1.1 (if isA w_once u then 1 else 0) [a.1, b.1], b.2)
theorem opsA_succ (n : Nat) (l : List Tr) (s : RS) : opsA z N (n + 1) l s = if isA w_op s then opsA z N n (l ++ [(opA z N s).1]) (opA z N s).2 else (l, s) := by
  rw [opsA]
  simp only [opA]
/-- One def of a program. -/
def defA (z : Env) (N : Nat) (s : RS) : Tr × RS :=
  let u := nextA z s
  let x := nameA z (hasA z w_rec u)
  let e := paramsA z (exprA z N 200) s_eq N true x.2
  (.mk 2 s.t.pos x.1.1 (if isA w_rec u then 1 else 0) [e.1], e.2)
theorem defsA_succ (n : Nat) (l : List Tr) (s : RS) : defsA z N (n + 1) l s = if isA w_def s then defsA z N n (l ++ [(defA z N s).1]) (defA z N s).2 else (l, s) := by
  rw [defsA]
  simp only [defA]
theorem op_same (hN : N ≠ 0) (s : RS) (ts : List Tk) (hg : ∀ t ∈ ts, Gd t) (h : Fit z s ts) (hk : s.t.kind ≠ 0) (ho : okA s = true) :
    Ans z (opA z N s) (opB z N ts) := by
  unfold opA
  have hT := typ_same (z := z) hN 200
  rcases look_cases hg h with ⟨l1, l2⟩ | ⟨l1, l2, l3, hnx, l5⟩
  · rw [l2] at ho; cases ho
  · have htk : takeB z ts = .ok (s.t, ts.tail) := by rw [takeB, l1, bnd_ok]
    unfold opB
    rw [htk, bnd_ok]
    simp only []
    obtain ⟨h2, hg2⟩ := hnx hk
    generalize nextA z s = u at *
    have kk : ∀ {v : RS}, okA v = false → (typA z N 200 (mustA z s_to (typA z N 200 (mustA z s_colon (nameA z v).2)).2)).2.f = v.f := fun hv => (keep_expr hT.keep (keep_must (keep_expr hT.keep (keep_must (keep_name (keep_start hv)))))).2
    refine ans_ite key_once hg2 h2 (fun hb => ?_) ?_ ?_
    · simp only [is_bad hb, Bool.or_self, Bool.false_eq_true, if_false, no_bad hb]
      exact kk hb
    · intro hi hg3 h3
      simp only [hi, Bool.true_or, if_true]
      exact op_rest hN s.t.pos 1 _ _ hg3 h3
    · intro hi hou
      simp only [hi, Bool.false_or, Bool.false_eq_true, if_false]
      have e : (if isA w_many u = true then nextA z u else noA u) = mustA z w_many u := rfl
      rw [e]
      refine ans_bnd (ans_must key_many hg2 h2) (fun hv => kk hv) ?_ (fun y vs hz hu => by subst hu; exact stop_bnd (kind_stop hz))
      intro vs hg3 h3 _
      exact op_rest hN s.t.pos 0 _ _ hg3 h3
theorem ops_same (hN : N ≠ 0) : ∀ n l s ts, (∀ t ∈ ts, Gd t) → Fit z s ts → Ans z (opsA z N n l s) (opsB z N n l ts) := by
  intro n
  induction n with
  | zero => intro l s ts hg h; exact ans_stuck hg h
  | succ n ih =>
    intro l s ts hg h
    rw [opsB]
    refine ans_look hg h (fun hb => ops_keep _ _ _ hb) ?_
    intro ho hf hnx his
    have e1 := his _ key_op
    rw [opsA_succ]
    cases c1 : (s.t.text == w_op) with
    | true =>
      have hk := text_kind e1 c1
      rw [c1] at e1
      simp only [e1, if_true]
      refine ans_bnd (op_same hN s ts hg h hk ho) (fun hb => ops_keep _ _ _ hb) ?_ (fun x us hz hu => by subst hu; exact ops_stop _ _ hz)
      intro us hg3 h3 _
      exact ih _ _ _ hg3 h3
    | false =>
      rw [c1] at e1
      simp only [e1, Bool.false_eq_true, if_false]
      exact ⟨hg, h, fun _ => rfl⟩
theorem defs_keep (n : Nat) (l : List Tr) (s : RS) (h : okA s = false) : (defsA z N n l s).2.f = s.f := by
  cases n with
  | zero => simp [defsA, stuck_keep h]
  | succ n => simp [defsA, is_bad h]
theorem defs_stop (n : Nat) (l : List Tr) (hz : z.fin.1 ≠ 0) : defsB z N n l [] = .error z.fin := by
  cases n with
  | zero => exact stuck_stop hz
  | succ n => exact stop_bnd (look_stop hz)
theorem def_same (s : RS) (ts : List Tk) (hg : ∀ t ∈ ts, Gd t) (h : Fit z s ts) (hk : s.t.kind ≠ 0) (ho : okA s = true) :
    Ans z (defA z N s) (defB z N ts) := by
  unfold defA
  have hE := expr_same (z := z) (N := N) 200
  rcases look_cases hg h with ⟨l1, l2⟩ | ⟨l1, l2, l3, hnx, l5⟩
  · rw [l2] at ho; cases ho
  · have htk : takeB z ts = .ok (s.t, ts.tail) := by rw [takeB, l1, bnd_ok]
    unfold defB
    rw [htk, bnd_ok]
    simp only []
    have hb := bind_same (N := N) hE (least := 1) (by omega) _ _ (hnx hk).2 (hnx hk).1
    simp only [Nat.lt_one_iff, decide_true, Bool.or_true] at hb
    exact ans_map (f := fun d : Int × List UInt8 × Tr => Tr.mk 2 s.t.pos d.2.1 d.1 [d.2.2]) hb rfl (fun _ => rfl)
theorem defs_same : ∀ n l s ts, (∀ t ∈ ts, Gd t) → Fit z s ts → Ans z (defsA z N n l s) (defsB z N n l ts) := by
  intro n
  induction n with
  | zero => intro l s ts hg h; exact ans_stuck hg h
  | succ n ih =>
    intro l s ts hg h
    rw [defsB]
    refine ans_look hg h (fun hb => defs_keep _ _ _ hb) ?_
    intro ho hf hnx his
    have e1 := his _ key_def
    rw [defsA_succ]
    cases c1 : (s.t.text == w_def) with
    | true =>
      have hk := text_kind e1 c1
      rw [c1] at e1
      simp only [e1, if_true]
      refine ans_bnd (def_same s ts hg h hk ho) (fun hb => defs_keep _ _ _ hb) ?_ (fun x us hz hu => by subst hu; exact defs_stop _ _ hz)
      intro us hg3 h3 _
      exact ih _ _ _ hg3 h3
    | false =>
      rw [c1] at e1
      simp only [e1, Bool.false_eq_true, if_false]
      exact ⟨hg, h, fun _ => rfl⟩

theorem prog_same (hN : N ≠ 0) (s : RS) (ts : List Tk) (hg : ∀ t ∈ ts, Gd t) (h : Fit z s ts) :
    Ans z ((progA z N s).1, if okA (progA z N s).2 && (progA z N s).2.t.kind != 0 then noA (progA z N s).2 else (progA z N s).2)
      (bnd (opsB z N N [] ts) fun o ts => bnd (defsB z N N o ts) fun d ts => bnd (needB z w_main ts) fun _ ts => bnd (needB z s_eq ts) fun _ ts =>
        bnd (exprB z N 200 ts) fun e ts => bnd (lookB z ts) fun t _ => if t.kind == 0 then .ok (.mk 0 0 [] o.length (d ++ [e]), ts) else .error (4, t.pos)) := by
  have hE := expr_same (z := z) (N := N) 200
  have fin : ∀ {v : RS} {f : Nat × Nat}, okA v = false ∧ v.f = f → (if okA v && v.t.kind != 0 then noA v else v).f = f := fun hv => by simp [hv.1, hv.2]
  have kd : ∀ {v : RS} {f : Nat × Nat} {l : List Tr}, okA v = false ∧ v.f = f → okA (defsA z N N l v).2 = false ∧ (defsA z N N l v).2.f = f := fun hv => ⟨bad_of hv.1 (defs_keep _ _ _ hv.1), (defs_keep _ _ _ hv.1).trans hv.2⟩
  unfold progA
  simp only []
  have A1 := ops_same (z := z) hN N [] s _ hg h
  generalize opsA z N N [] s = v1 at A1 ⊢
  refine ans_bnd A1 (fun hk => fin (keep_expr hE.keep (keep_must (keep_must (kd (keep_start hk)))))) ?_ (fun y vs hz hu => by subst hu; exact stop_bnd (defs_stop _ _ hz))
  intro us1 hg1 h1 ho1
  have A2 := defs_same (z := z) (N := N) N v1.1 v1.2 _ hg1 h1
  generalize defsA z N N v1.1 v1.2 = v2 at A2 ⊢
  refine ans_bnd A2 (fun hk => fin (keep_expr hE.keep (keep_must (keep_must (keep_start hk))))) ?_ (fun y vs hz hu => by subst hu; exact stop_bnd (need_stop hz))
  intro us2 hg2 h2 ho2
  have A3 := ans_must (z := z) (x := w_main) key_main hg2 h2
  generalize mustA z w_main v2.2 = v3 at A3 ⊢
  refine ans_bnd A3 (fun hk => fin (keep_expr hE.keep (keep_must (keep_start hk)))) ?_ (fun y vs hz hu => by subst hu; exact stop_bnd (need_stop hz))
  intro us3 hg3 h3 ho3
  have A4 := ans_must (z := z) (x := s_eq) key_eq hg3 h3
  generalize mustA z s_eq v3 = v4 at A4 ⊢
  refine ans_bnd A4 (fun hk => fin (keep_expr hE.keep (keep_start hk))) ?_ (fun y vs hz hu => by subst hu; exact stop_bnd (hE.stop hz))
  intro us4 hg4 h4 ho4
  have A5 := hE.ans v4 _ hg4 h4
  generalize exprA z N 200 v4 = v5 at A5 ⊢
  refine ans_bnd A5 (fun hk => fin (keep_start hk)) ?_ (fun y vs hz hu => by subst hu; exact stop_bnd (look_stop hz))
  intro us5 hg5 h5 ho5
  refine ans_look hg5 h5 (fun hb => fin (keep_start hb)) ?_
  intro ho hf hnx his
  by_cases hk : v5.2.t.kind = 0
  · have e1 : (v5.2.t.kind == 0) = true := by simp [hk]
    have e2 : (okA v5.2 && v5.2.t.kind != 0) = false := by simp [hk]
    simp only [e1, e2, if_true, Bool.false_eq_true, if_false]
    exact ⟨hg5, h5, fun _ => rfl⟩
  · have e1 : (v5.2.t.kind == 0) = false := by simp [hk]
    have e2 : (okA v5.2 && v5.2.t.kind != 0) = true := by simp [hk, ho]
    have e3 : noA v5.2 = ⟨v5.2.t, v5.2.rest, (4, v5.2.t.pos)⟩ := by simp [noA, ho]
    simp only [e1, e2, e3, if_true, Bool.false_eq_true, if_false]
    exact ⟨rfl, by simp⟩
end
end Sy
end Go.Proofs.YtedppdcknkcbjaaGreatDoor

namespace Go.Proofs.YtedppdcknkcbjaaGreatDoor
namespace Sy
open Lx
section
variable {z : Env} {N : Nat}

def fstR {α : Type} (x : R α) : Except (Nat × Nat) α :=
  match x with
  | .error e => .error e
  | .ok (a, _) => .ok a
theorem fstR_bnd {α β : Type} (x : R α) {f g : α → List Tk → R β} (h : ∀ a ts, fstR (f a ts) = fstR (g a ts)) : fstR (bnd x f) = fstR (bnd x g) := by
  cases x with
  | error e => rfl
  | ok x => exact h _ _

theorem bnd_inv {α β : Type} {x : R α} {f : α → List Tk → R β} {y : β × List Tk} (h : bnd x f = .ok y) : ∃ a ts, x = .ok (a, ts) ∧ f a ts = .ok y := by
  cases x with
  | error e => cases h
  | ok x => exact ⟨x.1, x.2, rfl, h⟩
theorem fit_end {s : RS} {us : List Tk} {t : Tk} {vs : List Tk} (h : Fit z s us) (hl : lookB z us = .ok (t, vs)) : okA s = true := by
  cases us with
  | cons a r =>
    simp only [Fit] at h
    rw [h]
    rfl
  | nil =>
    by_cases hz : z.fin.1 = 0
    · simp only [Fit, hz, if_true] at h
      rw [h]
      rfl
    · simp [lookB, hz] at hl

theorem parse_same (hN : N ≠ 0) (s : RS) (ts : List Tk) (hg : ∀ t ∈ ts, Gd t) (h : Fit z (nextA z s) ts) : parseA z N s = parseB z N ts := by
  have hp := prog_same (z := z) hN (nextA z s) ts hg h
  have e : fstR (progB z N ts) = fstR (bnd (opsB z N N [] ts) fun o ts => bnd (defsB z N N o ts) fun d ts => bnd (needB z w_main ts) fun _ ts => bnd (needB z s_eq ts) fun _ ts =>
        bnd (exprB z N 200 ts) fun e ts => bnd (lookB z ts) fun t _ => if t.kind == 0 then (.ok (.mk 0 0 [] o.length (d ++ [e]), ts) : R Tr) else .error (4, t.pos)) := by
    unfold progB
    refine fstR_bnd _ fun o ts => fstR_bnd _ fun d ts => fstR_bnd _ fun _ ts => fstR_bnd _ fun _ ts => fstR_bnd _ fun e ts => ?_
    unfold kindB
    cases lookB z ts with
    | error x => rfl
    | ok x =>
      obtain ⟨t, us⟩ := x
      simp only [bnd_ok]
      by_cases hk : t.kind = 0
      · simp [hk, bnd, fstR]
      · simp [hk, bnd, fstR]
  have hlast : ∀ T us, (bnd (opsB z N N [] ts) fun o ts => bnd (defsB z N N o ts) fun d ts => bnd (needB z w_main ts) fun _ ts => bnd (needB z s_eq ts) fun _ ts =>
        bnd (exprB z N 200 ts) fun e ts => bnd (lookB z ts) fun t _ => if t.kind == 0 then (.ok (.mk 0 0 [] o.length (d ++ [e]), ts) : R Tr) else .error (4, t.pos)) = .ok (T, us) → ∃ t vs, lookB z us = .ok (t, vs) := by
    intro T us hy
    obtain ⟨_, _, _, hy⟩ := bnd_inv hy
    obtain ⟨_, _, _, hy⟩ := bnd_inv hy
    obtain ⟨_, _, _, hy⟩ := bnd_inv hy
    obtain ⟨_, _, _, hy⟩ := bnd_inv hy
    obtain ⟨_, ts5, _, hy⟩ := bnd_inv hy
    obtain ⟨t, vs, hl, hy⟩ := bnd_inv hy
    by_cases hk : t.kind = 0
    · simp only [hk, beq_self_eq_true, if_true, Except.ok.injEq, Prod.mk.injEq] at hy
      rw [hy.2] at hl
      exact ⟨t, vs, hl⟩
    · have e0 : (t.kind == 0) = false := by simp [hk]
      simp [e0] at hy
  have e2 : parseB z N ts = match fstR (progB z N ts) with
      | .ok a => (a, (0, 0))
      | .error e => (zT, e) := by
    unfold parseB fstR
    cases progB z N ts with
    | error x => rfl
    | ok x => rfl
  rw [e2, e]
  unfold parseA
  simp only []
  generalize progA z N (nextA z s) = n at hp ⊢
  revert hp hlast
  generalize (bnd (opsB z N N [] ts) fun o ts => bnd (defsB z N N o ts) fun d ts => bnd (needB z w_main ts) fun _ ts => bnd (needB z s_eq ts) fun _ ts =>
        bnd (exprB z N 200 ts) fun e ts => bnd (lookB z ts) fun t _ => if t.kind == 0 then (.ok (.mk 0 0 [] o.length (d ++ [e]), ts) : R Tr) else .error (4, t.pos)) = y
  intro hlast hp
  generalize (if (okA n.2 && n.2.t.kind != 0) = true then noA n.2 else n.2) = u at hp ⊢
  cases y with
  | error x =>
    obtain ⟨h1, h2⟩ := hp
    have hb : okA u = false := okA_f h1 h2
    have h1' : u.f = x := h1
    simp [hb, h1', fstR]
  | ok x =>
    obtain ⟨T, us⟩ := x
    obtain ⟨_, h2, h3⟩ := hp
    obtain ⟨t, vs, hl⟩ := hlast T us rfl
    have ho : okA u = true := fit_end h2 hl
    have h4 := h3 ho
    simp only [ho, if_true, fstR]
    rw [← h4]
end
end Sy
end Go.Proofs.YtedppdcknkcbjaaGreatDoor

namespace Go.Proofs.YtedppdcknkcbjaaGreatDoor
namespace Sy
open Lx

def mu (s : RS) : Nat := if okA s then (if s.t.kind = 0 then 0 else s.rest.length + 1) else 0

theorem mu_err {t : Tk} {r : List Tk} {k p : Nat} (h : k ≠ 0) : mu ⟨t, r, (k, p)⟩ = 0 := by simp [mu, okA, h]
theorem mu_no (s : RS) : mu (noA s) ≤ mu s := by
  unfold noA
  split
  · rw [mu_err (by decide)]; omega
  · omega
theorem mu_stuck (s : RS) : mu (stuckA s) ≤ mu s := by
  unfold stuckA
  split
  · rw [mu_err (by decide)]; omega
  · omega
theorem mu_deep (s : RS) : mu (deepA s) ≤ mu s := by rw [deepA, mu_err (by decide)]; omega
variable (z : Env)
theorem mu_next_lt {s : RS} (ho : okA s = true) (hk : s.t.kind ≠ 0) : mu (nextA z s) < mu s := by
  have h0 : mu s = s.rest.length + 1 := by simp [mu, ho, hk]
  rw [h0]
  unfold nextA
  rw [if_pos ho]
  cases hr : s.rest with
  | cons x r =>
    simp only [mu, okA]
    split <;> (try split) <;> simp
  | nil =>
    by_cases hz : z.fin.1 = 0
    · simp [hz, mu, okA, endTk]
    · simp [hz, mu, okA]
theorem mu_next (s : RS) : s.t.kind ≠ 0 ∨ okA s = false → mu (nextA z s) ≤ mu s := by
  intro h
  cases ho : okA s with
  | true =>
    rcases h with h | h
    · exact Nat.le_of_lt (mu_next_lt z ho h)
    · rw [ho] at h; cases h
  | false => simp [nextA, ho]
theorem is_kind' {s : RS} {x : List UInt8} (h : isA x s = true) : s.t.kind ≠ 0 ∧ okA s = true := by
  simp only [isA, Bool.and_eq_true, Bool.or_eq_true, beq_iff_eq] at h
  obtain ⟨⟨h1, h2⟩, _⟩ := h
  exact ⟨by rcases h2 with h2 | h2 <;> omega, h1⟩
theorem mu_is {s : RS} {x : List UInt8} (h : isA x s = true) : mu (nextA z s) < mu s := mu_next_lt z (is_kind' h).2 (is_kind' h).1
theorem mu_has (x : List UInt8) (s : RS) : mu (hasA z x s) ≤ mu s := by
  unfold hasA
  split
  · rename_i h; exact Nat.le_of_lt (mu_is z h)
  · omega
theorem mu_must (x : List UInt8) (s : RS) : mu (mustA z x s) ≤ mu s := by
  unfold mustA
  split
  · rename_i h; exact Nat.le_of_lt (mu_is z h)
  · exact mu_no s
theorem mu_isName {s : RS} (h : isNameA s = true) : mu (nextA z s) < mu s := by
  simp only [isNameA, Bool.and_eq_true, beq_iff_eq] at h
  exact mu_next_lt z h.1 (by omega)
theorem mu_name (s : RS) : mu (nameA z s).2 ≤ mu s := by
  unfold nameA
  split
  · rename_i h; exact Nat.le_of_lt (mu_isName z h)
  · exact mu_no s
theorem mu_name_lt {s : RS} (h : okA (nameA z s).2 = true) (h2 : okA s = true) : mu (nameA z s).2 < mu s := by
  unfold nameA at h ⊢
  split
  · rename_i h; exact mu_isName z h
  · rename_i h3
    rw [if_neg h3] at h
    simp only [noA, h2, if_true] at h
    simp [okA] at h

def Down (g : RS → Tr × RS) : Prop := ∀ s, mu (g s).2 ≤ mu s

variable (N : Nat)
theorem mu_row : ∀ n l s, mu (rowA z n l s).2 ≤ mu s := by
  intro n
  induction n with
  | zero => intro l s; exact mu_stuck s
  | succ n ih =>
    intro l s
    rw [rowA]
    have h1 := mu_name z s
    split
    · rename_i h
      have := ih (l ++ [nm 23 (nameA z s).1.2 (nameA z s).1.1 []]) (nextA z (nameA z s).2)
      have := mu_is z h
      omega
    · exact h1
theorem mu_lists : ∀ n a s, mu (listsA z n a s).2 ≤ mu s := by
  intro n
  induction n with
  | zero => intro l s; exact mu_stuck s
  | succ n ih =>
    intro a s
    rw [listsA]
    split
    · rename_i h
      have := ih (nd 27 a.pos [a]) (nextA z s)
      have := mu_is z h
      omega
    · exact Nat.le_refl _
theorem mu_tatom {T : RS → Tr × RS} (hT : Down T) (s : RS) : mu (tatomA z T s).2 ≤ mu s := by
  unfold tatomA
  split
  · rename_i h; exact Nat.le_of_lt (mu_is z h)
  · split
    · rename_i h; exact Nat.le_of_lt (mu_is z h)
    · split
      · rename_i h; exact Nat.le_of_lt (mu_is z h)
      · split
        · rename_i h
          have h1 := mu_is z h
          have h2 := hT (nextA z s)
          have h3 := mu_must z s_rp (T (nextA z s)).2
          simp only []
          omega
        · exact mu_no s
theorem mu_some {T : RS → Tr × RS} (hT : Down T) (s : RS) : mu (someA z N T s).2 ≤ mu s :=
  Nat.le_trans (mu_lists z N _ _) (mu_tatom z hT s)
theorem mu_pair {T : RS → Tr × RS} (hT : Down T) : ∀ n s, mu (pairA z N T n s).2 ≤ mu s := by
  intro n
  induction n with
  | zero => intro s; exact mu_stuck s
  | succ n ih =>
    intro s
    rw [pairA]
    have h1 := mu_some z N hT s
    split
    · rename_i h
      have h2 := ih (nextA z (someA z N T s).2)
      have h3 := mu_is z h
      simp only []
      omega
    · exact h1
theorem mu_typBody {T : RS → Tr × RS} (hT : Down T) (s : RS) : mu (typBodyA z N T s).2 ≤ mu s := by
  have h1 := mu_pair z N hT N s
  unfold typBodyA
  simp only []
  split
  · rename_i h
    have h2 := mu_is z h
    have h3 := hT (nextA z (pairA z N T N s).2)
    simp only []
    omega
  · split
    · rename_i h
      have h2 := mu_is z h
      have h3 := mu_must z s_lb (nextA z (pairA z N T N s).2)
      have h4 := mu_row z N [] (mustA z s_lb (nextA z (pairA z N T N s).2))
      have h5 := mu_must z s_rb (rowA z N [] (mustA z s_lb (nextA z (pairA z N T N s).2))).2
      have h6 := mu_must z s_arrow (mustA z s_rb (rowA z N [] (mustA z s_lb (nextA z (pairA z N T N s).2))).2)
      have h7 := hT (mustA z s_arrow (mustA z s_rb (rowA z N [] (mustA z s_lb (nextA z (pairA z N T N s).2))).2))
      simp only []
      omega
    · exact h1
theorem mu_typ : ∀ k, Down (typA z N k) := by
  intro k
  induction k with
  | zero =>
    intro s
    rw [typA]
    split
    · exact mu_deep s
    · exact Nat.le_refl _
  | succ k ih =>
    intro s
    rw [typA]
    split
    · exact mu_typBody z N ih s
    · exact Nat.le_refl _
end Sy
end Go.Proofs.YtedppdcknkcbjaaGreatDoor

namespace Go.Proofs.YtedppdcknkcbjaaGreatDoor
namespace Sy
open Lx
variable (z : Env) (N : Nat)

theorem mu_params {E : RS → Tr × RS} (hE : Down E) (x : List UInt8) : ∀ n first s, mu (paramsA z E x n first s).2 ≤ mu s := by
  intro n
  induction n with
  | zero => intro _ s; exact mu_stuck s
  | succ n ih =>
    intro first s
    have h1 := mu_name z s
    rw [paramsA]
    split
    · split
      · exact Nat.le_trans (ih false _) h1
      · exact h1
    · exact Nat.le_trans (hE _) (mu_must z x s)
theorem mu_squares {E : RS → Tr × RS} (hE : Down E) : ∀ n l s, mu (squaresA z E n l s).2 ≤ mu s := by
  intro n
  induction n with
  | zero => intro _ s; exact mu_stuck s
  | succ n ih =>
    intro l s
    rw [squaresA]
    have h1 := hE s
    split
    · rename_i h
      exact Nat.le_trans (ih _ _) (Nat.le_trans (Nat.le_of_lt (mu_is z h)) h1)
    · exact h1
theorem mu_square {E : RS → Tr × RS} (hE : Down E) (p : Nat) (s : RS) : mu (squareA z N E p s).2 ≤ mu s := by
  unfold squareA
  split
  · rename_i h; exact Nat.le_of_lt (mu_is z h)
  · exact Nat.le_trans (mu_must z _ _) (mu_squares z hE N [] s)
theorem mu_round {E : RS → Tr × RS} (hE : Down E) (p : Nat) (s : RS) : mu (roundA z E p s).2 ≤ mu s := by
  unfold roundA
  split
  · rename_i h; exact Nat.le_of_lt (mu_is z h)
  · simp only []
    have h1 := hE s
    split
    · rename_i h
      exact Nat.le_trans (mu_must z _ _) (Nat.le_trans (hE _) (Nat.le_trans (Nat.le_of_lt (mu_is z h)) h1))
    · exact Nat.le_trans (mu_must z _ _) h1
theorem mu_atom {E : RS → Tr × RS} (hE : Down E) (s : RS) : mu (atomA z N E s).2 ≤ mu s ∧ (beginsA s = true → mu (atomA z N E s).2 < mu s) := by
  unfold atomA
  split
  · rename_i ho
    split
    · rename_i h
      have := mu_next_lt z ho (s := s) (by omega)
      exact ⟨Nat.le_of_lt this, fun _ => this⟩
    · rename_i hk2
      split
      · rename_i h
        have := mu_next_lt z ho (s := s) (by omega)
        exact ⟨Nat.le_of_lt this, fun _ => this⟩
      · rename_i hk1
        split
        · rename_i h
          have h1 := mu_is z h
          have h2 : mu (nextA z (if okA (nextA z s) && (nextA z s).t.kind != 1 then noA (nextA z s) else nextA z s)) ≤ mu (nextA z s) := by
            split
            · rename_i h3
              have h4 := mu_no (nextA z s)
              refine Nat.le_trans (mu_next z _ ?_) h4
              right
              simp only [Bool.and_eq_true] at h3
              simp only [noA, h3.1, if_true]
              simp [okA]
            · rename_i h3
              refine mu_next z _ ?_
              cases h5 : okA (nextA z s) with
              | false => exact .inr rfl
              | true =>
                left
                simp [h5] at h3
                omega
          simp only []
          exact ⟨by omega, fun _ => by omega⟩
        · rename_i h3
          split
          · rename_i h
            have := mu_is z h
            exact ⟨Nat.le_of_lt this, fun _ => this⟩
          · rename_i h4
            split
            · rename_i h
              have := mu_is z h
              exact ⟨Nat.le_of_lt this, fun _ => this⟩
            · rename_i h5
              split
              · rename_i h
                have h1 := mu_is z h
                have h2 := mu_round z hE s.t.pos (nextA z s)
                exact ⟨by omega, fun _ => by omega⟩
              · rename_i h6
                split
                · rename_i h
                  have h1 := mu_is z h
                  have h2 := mu_square z N hE s.t.pos (nextA z s)
                  exact ⟨by omega, fun _ => by omega⟩
                · rename_i h7
                  refine ⟨mu_no s, fun hb => ?_⟩
                  simp [beginsA, ho, hk2, hk1, h3, h4, h5, h6, h7] at hb
  · rename_i ho
    refine ⟨Nat.le_refl _, fun hb => ?_⟩
    simp [beginsA, ho] at hb
theorem mu_apps {E : RS → Tr × RS} (hE : Down E) : ∀ n a s, mu (appsA z N E n a s).2 ≤ mu s := by
  intro n
  induction n with
  | zero => intro _ s; exact mu_stuck s
  | succ n ih =>
    intro a s
    rw [appsA]
    split
    · exact Nat.le_trans (ih _ _) (mu_atom z N hE s).1
    · exact Nat.le_refl _
theorem mu_app {E : RS → Tr × RS} (hE : Down E) (s : RS) : mu (appA z N E s).2 ≤ mu s := by
  unfold appA
  split
  · rename_i h
    exact Nat.le_trans (mu_atom z N hE _).1 (Nat.le_trans (mu_name z _) (Nat.le_of_lt (mu_is z h)))
  · split
    · rename_i h
      exact Nat.le_trans (mu_atom z N hE _).1 (Nat.le_of_lt (mu_is z h))
    · split
      · rename_i h
        exact Nat.le_trans (mu_atom z N hE _).1 (Nat.le_of_lt (mu_is z h))
      · exact Nat.le_trans (mu_apps z N hE N _ _) (mu_atom z N hE s).1
theorem mu_muls {E : RS → Tr × RS} (hE : Down E) : ∀ n a s, mu (mulsA z N E n a s).2 ≤ mu s := by
  intro n
  induction n with
  | zero => intro _ s; exact mu_stuck s
  | succ n ih =>
    intro a s
    rw [mulsA]
    split
    · rename_i h
      exact Nat.le_trans (ih _ _) (Nat.le_trans (mu_app z N hE _) (Nat.le_of_lt (mu_is z h)))
    · exact Nat.le_refl _
theorem mu_mul {E : RS → Tr × RS} (hE : Down E) (s : RS) : mu (mulA z N E s).2 ≤ mu s := Nat.le_trans (mu_muls z N hE N _ _) (mu_app z N hE s)
theorem mu_sums {E : RS → Tr × RS} (hE : Down E) : ∀ n a s, mu (sumsA z N E n a s).2 ≤ mu s := by
  intro n
  induction n with
  | zero => intro _ s; exact mu_stuck s
  | succ n ih =>
    intro a s
    rw [sumsA]
    split
    · rename_i h
      exact Nat.le_trans (ih _ _) (Nat.le_trans (mu_mul z N hE _) (Nat.le_of_lt (mu_is z h)))
    · split
      · rename_i h
        exact Nat.le_trans (ih _ _) (Nat.le_trans (mu_mul z N hE _) (Nat.le_of_lt (mu_is z h)))
      · exact Nat.le_refl _
theorem mu_sum {E : RS → Tr × RS} (hE : Down E) (s : RS) : mu (sumA z N E s).2 ≤ mu s := Nat.le_trans (mu_sums z N hE N _ _) (mu_mul z N hE s)
theorem mu_cons {E : RS → Tr × RS} (hE : Down E) : ∀ n s, mu (consA z N E n s).2 ≤ mu s := by
  intro n
  induction n with
  | zero => intro s; exact mu_stuck s
  | succ n ih =>
    intro s
    rw [consA]
    simp only []
    split
    · rename_i h
      exact Nat.le_trans (ih _) (Nat.le_trans (Nat.le_of_lt (mu_is z h)) (mu_sum z N hE s))
    · exact mu_sum z N hE s
theorem mu_comp {E : RS → Tr × RS} (hE : Down E) (s : RS) : mu (compA z N E s).2 ≤ mu s := by
  unfold compA
  simp only []
  split
  · rename_i h
    exact Nat.le_trans (mu_cons z N hE N _) (Nat.le_trans (Nat.le_of_lt (mu_is z h)) (mu_cons z N hE N s))
  · split
    · rename_i h
      exact Nat.le_trans (mu_cons z N hE N _) (Nat.le_trans (Nat.le_of_lt (mu_is z h)) (mu_cons z N hE N s))
    · exact mu_cons z N hE N s
theorem mu_let {E : RS → Tr × RS} (hE : Down E) (p : Nat) (s : RS) : mu (letA z N E p s).2 ≤ mu s :=
  Nat.le_trans (hE _) (Nat.le_trans (mu_must z _ _) (Nat.le_trans (mu_params z hE _ N _ _) (Nat.le_trans (mu_name z _) (mu_has z _ s))))
theorem mu_cases {E : RS → Tr × RS} (hE : Down E) (p : Nat) (s : RS) : mu (casesA z E p s).2 ≤ mu s :=
  Nat.le_trans (mu_must z _ _) (Nat.le_trans (hE _) (Nat.le_trans (mu_must z _ _) (Nat.le_trans (mu_name z _) (Nat.le_trans (mu_must z _ _) (Nat.le_trans (mu_name z _) (Nat.le_trans (mu_must z _ _)
    (Nat.le_trans (hE _) (Nat.le_trans (mu_must z _ _) (Nat.le_trans (mu_must z _ _) (Nat.le_trans (mu_must z _ _) (Nat.le_trans (mu_must z _ _) (hE s))))))))))))
theorem mu_clauses {E : RS → Tr × RS} (hE : Down E) : ∀ n l s, mu (clausesA z E n l s).2 ≤ mu s := by
  intro n
  induction n with
  | zero => intro _ s; exact mu_stuck s
  | succ n ih =>
    intro l s
    rw [clausesA]
    split
    · rename_i h
      exact Nat.le_trans (ih _ _) (Nat.le_trans (hE _) (Nat.le_trans (mu_must z _ _) (Nat.le_trans (mu_name z _) (Nat.le_trans (mu_name z _) (Nat.le_trans (mu_name z _) (Nat.le_of_lt (mu_is z h)))))))
    · exact Nat.le_refl _
theorem mu_handle {E : RS → Tr × RS} (hE : Down E) (p : Nat) (s : RS) (hs : s.t.kind ≠ 0 ∨ okA s = false) : mu (handleA z N E p s).2 ≤ mu s :=
  Nat.le_trans (mu_must z _ _) (Nat.le_trans (mu_clauses z hE N _ _) (Nat.le_trans (hE _) (Nat.le_trans (mu_must z _ _) (Nat.le_trans (mu_name z _) (Nat.le_trans (mu_must z _ _) (Nat.le_trans (mu_must z _ _)
    (Nat.le_trans (mu_must z _ _) (Nat.le_trans (hE _) (mu_next z s hs)))))))))
theorem mu_any {E : RS → Tr × RS} (hE : Down E) (s : RS) : mu (anyA z N E s).2 ≤ mu s := by
  unfold anyA
  split
  · rename_i h
    exact Nat.le_trans (mu_let z N hE _ _) (Nat.le_of_lt (mu_is z h))
  · split
    · rename_i h
      exact Nat.le_trans (mu_params z hE _ N _ _) (Nat.le_of_lt (mu_is z h))
    · split
      · rename_i h
        exact Nat.le_trans (hE _) (Nat.le_trans (mu_must z _ _) (Nat.le_trans (hE _) (Nat.le_trans (mu_must z _ _) (Nat.le_trans (hE _) (Nat.le_of_lt (mu_is z h))))))
      · split
        · rename_i h
          exact Nat.le_trans (mu_cases z hE _ _) (Nat.le_of_lt (mu_is z h))
        · split
          · rename_i h
            simp only [Bool.or_eq_true] at h
            refine mu_handle z N hE _ _ (.inl ?_)
            rcases h with h | h
            · exact (is_kind' h).1
            · exact (is_kind' h).1
          · simp only []
            split
            · rename_i h
              exact Nat.le_trans (hE _) (Nat.le_trans (Nat.le_of_lt (mu_is z h)) (mu_comp z N hE s))
            · exact mu_comp z N hE s
theorem mu_expr : ∀ k, Down (exprA z N k) := by
  intro k
  induction k with
  | zero =>
    intro s
    rw [exprA]
    split
    · exact mu_deep s
    · exact Nat.le_refl _
  | succ k ih =>
    intro s
    rw [exprA]
    split
    · exact mu_any z N ih s
    · exact Nat.le_refl _
end Sy
end Go.Proofs.YtedppdcknkcbjaaGreatDoor

namespace Go.Proofs.YtedppdcknkcbjaaGreatDoor
open Sy (Tr)

mutual
def nodes : Tr → Nat
  | .mk _ _ _ _ l => 1 + nodesL l
def nodesL : List Tr → Nat
  | [] => 0
  | t :: r => nodes t + nodesL r
end
mutual
def high : Tr → Nat
  | .mk _ _ _ _ l => 1 + highL l
def highL : List Tr → Nat
  | [] => 0
  | t :: r => max (high t) (highL r)
end
def isE (t : Tr) : Prop := 3 ≤ t.kind ∧ t.kind ≤ 20
def isT (t : Tr) : Prop := 24 ≤ t.kind ∧ t.kind ≤ 29
def fiveS (x : List UInt8) : Prop := x = [43] ∨ x = [45] ∨ x = [42] ∨ x = [60] ∨ x = [61, 61]
/-- What kids a node of a kind may have. -/
def cond (k : Nat) (x : List UInt8) (m : Int) (l : List Tr) : Prop :=
  ((k = 4 ∨ k = 5 ∨ k = 6 ∨ k = 15 ∨ k = 23 ∨ k = 24 ∨ k = 25 ∨ k = 26) ∧ l = []) ∨
  (k = 3 ∧ l = [] ∧ -9223372036854775807 ≤ m ∧ m ≤ 9223372036854775807) ∨
  ((k = 7 ∨ k = 13 ∨ k = 14 ∨ k = 19 ∨ k = 21) ∧ ∃ a, l = [a] ∧ isE a) ∨
  (k = 27 ∧ ∃ a, l = [a] ∧ isT a) ∨
  ((k = 8 ∨ (k = 9 ∧ m ≠ 1) ∨ k = 10 ∨ k = 12 ∨ k = 16 ∨ (k = 18 ∧ fiveS x)) ∧ ∃ a b, l = [a, b] ∧ isE a ∧ isE b) ∨
  ((k = 1 ∨ k = 28) ∧ ∃ a b, l = [a, b] ∧ isT a ∧ isT b) ∨
  (k = 9 ∧ m = 1 ∧ ∃ f b, l = [f, b] ∧ f.kind = 7 ∧ isE b) ∨
  (k = 11 ∧ ∃ a b c, l = [a, b, c] ∧ isE a ∧ isE b ∧ isE c) ∨
  (k = 17 ∧ ∃ a b c d e, l = [a, b, c, d, e] ∧ isE a ∧ isE b ∧ isE e) ∨
  (k = 20 ∧ ∃ a r cs, l = a :: r :: cs ∧ isE a ∧ r.kind = 21 ∧ ∀ q ∈ cs, q.kind = 22) ∨
  (k = 22 ∧ ∃ a b c, l = [a, b, c] ∧ isE c) ∨
  (k = 29 ∧ ∃ a b ns, l = a :: b :: ns ∧ isT a ∧ isT b ∧ ∀ q ∈ ns, q.kind = 23) ∨
  (k = 2 ∧ ∃ f, l = [f] ∧ f.kind = 7) ∨
  (k = 0 ∧ ∃ ops defs mn, l = ops ++ defs ++ [mn] ∧ m = ops.length ∧ (∀ q ∈ ops, q.kind = 1) ∧ (∀ q ∈ defs, q.kind = 2) ∧ isE mn)
mutual
def Nice : Tr → Prop
  | .mk k _ x m l => x.length ≤ 20 ∧ cond k x m l ∧ NiceL l
def NiceL : List Tr → Prop
  | [] => True
  | t :: r => Nice t ∧ NiceL r
end
theorem niceL_append (a b : List Tr) : NiceL (a ++ b) ↔ NiceL a ∧ NiceL b := by
  induction a with
  | nil => simp [NiceL]
  | cons t r ih => simp only [List.cons_append, NiceL, ih, and_assoc]
theorem nodesL_append (a b : List Tr) : nodesL (a ++ b) = nodesL a + nodesL b := by
  induction a with
  | nil => simp [nodesL]
  | cons t r ih => simp only [List.cons_append, nodesL, ih]; omega
theorem nodes_pos (t : Tr) : 1 ≤ nodes t := by cases t; simp [nodes]
theorem nodesL_len (l : List Tr) : l.length ≤ nodesL l := by
  induction l with
  | nil => simp
  | cons t r ih => have := nodes_pos t; simp only [List.length_cons, nodesL]; omega
end Go.Proofs.YtedppdcknkcbjaaGreatDoor

namespace Go.Proofs.YtedppdcknkcbjaaGreatDoor
open Sy Lx

def Post {α : Type} (x : R α) (Q : α → List Tk → Prop) : Prop := ∀ a ts, x = .ok (a, ts) → Q a ts
theorem post_bnd {α β : Type} {x : R α} {f : α → List Tk → R β} {Q : α → List Tk → Prop} {P : β → List Tk → Prop} (h : Post x Q) (hf : ∀ a ts, Q a ts → Post (f a ts) P) : Post (bnd x f) P := by
  intro b ts hb
  cases x with
  | error e => simp [bnd] at hb
  | ok v => obtain ⟨a, ts1⟩ := v; exact hf a ts1 (h a ts1 rfl) b ts hb
theorem post_ok {α : Type} {a : α} {ts : List Tk} {Q : α → List Tk → Prop} (h : Q a ts) : Post (.ok (a, ts)) Q := by
  intro b ts' hb
  simp only [Except.ok.injEq, Prod.mk.injEq] at hb
  obtain ⟨rfl, rfl⟩ := hb
  exact h
theorem post_err {α : Type} {e : Nat × Nat} {Q : α → List Tk → Prop} : Post (.error e : R α) Q := by
  intro b ts' hb
  cases hb
theorem post_if {α : Type} {c : Prop} [Decidable c] {x y : R α} {Q : α → List Tk → Prop} (hx : c → Post x Q) (hy : ¬ c → Post y Q) : Post (if c then x else y) Q := by
  split
  · exact hx ‹_›
  · exact hy ‹_›
theorem Post.mono {α : Type} {x : R α} {P Q : α → List Tk → Prop} (h : Post x P) (hq : ∀ a ts, P a ts → Q a ts) : Post x Q := fun a ts e => hq a ts (h a ts e)
/-- What the lexer says of tokens. -/
def TkOK (ts : List Tk) : Prop := ∀ t ∈ ts, (t.kind = 2 → t.text.length ≤ 20) ∧ (t.kind = 1 → t.num ≤ 9223372036854775807)
theorem TkOK.tail {ts : List Tk} (h : TkOK ts) : TkOK ts.tail := fun t ht => h t (List.mem_of_mem_tail ht)
variable {z : Env} {N : Nat}
theorem post_look {α : Type} {ts : List Tk} {f : Tk → List Tk → R α} {Q : α → List Tk → Prop} (h : ∀ t, (ts = [] ∧ t = endTk z ∨ ∃ r, ts = t :: r) → Post (f t ts) Q) : Post (bnd (lookB z ts) f) Q := by
  unfold lookB
  cases ts with
  | nil =>
    dsimp only
    split
    · exact h _ (.inl ⟨rfl, rfl⟩)
    · exact post_err
  | cons t r => exact h t (.inr ⟨r, rfl⟩)
theorem text_cons {ts : List Tk} {t : Tk} (h : ts = [] ∧ t = endTk z ∨ ∃ r, ts = t :: r) {x : List UInt8} (hx : x ≠ []) (e : (t.text == x) = true) : ∃ r, ts = t :: r := by
  rcases h with ⟨_, rfl⟩ | h
  · have : [] = x := by simpa [endTk] using e
    exact absurd this.symm hx
  · exact h
theorem kind_cons {ts : List Tk} {t : Tk} (h : ts = [] ∧ t = endTk z ∨ ∃ r, ts = t :: r) {k : Nat} (hk : k ≠ 0) (e : (t.kind == k) = true) : ∃ r, ts = t :: r := by
  rcases h with ⟨_, rfl⟩ | h
  · have : 0 = k := by simpa [endTk] using e
    exact absurd this.symm hk
  · exact h
/-- One token was taken. -/
def One (n : Nat) (ts : List Tk) : Prop := ts.length + 1 = n ∧ TkOK ts
theorem one_tail {ts : List Tk} {t : Tk} (h : ∃ r, ts = t :: r) (hk : TkOK ts) : One ts.length ts.tail := by
  obtain ⟨r, rfl⟩ := h
  exact ⟨rfl, hk.tail⟩
theorem post_ite {α : Type} {x : List UInt8} {ts : List Tk} {yes no : List Tk → R α} {Q : α → List Tk → Prop} (hx : x ≠ []) (hk : TkOK ts) (hy : ∀ ts', One ts.length ts' → Post (yes ts') Q) (hn : Post (no ts) Q) : Post (iteB z x ts yes no) Q := by
  unfold iteB
  refine post_look fun t ht => post_if (fun e => hy _ (one_tail (text_cons ht hx e) hk)) (fun _ => hn)
theorem post_need {x : List UInt8} {ts : List Tk} (hx : x ≠ []) (hk : TkOK ts) : Post (needB z x ts) (fun _ ts' => One ts.length ts') := by
  unfold needB
  refine post_look fun t ht => post_if (fun e => post_ok (one_tail (text_cons ht hx e) hk)) (fun _ => post_err)
theorem post_name {ts : List Tk} (hk : TkOK ts) : Post (kindB z 2 ts) (fun t ts' => t.text.length ≤ 20 ∧ One ts.length ts') := by
  unfold kindB
  refine post_look fun t ht => post_if (fun e => ?_) (fun _ => post_err)
  have hc := kind_cons ht (by decide) e
  refine post_ok ⟨?_, one_tail hc hk⟩
  obtain ⟨r, hr⟩ := hc
  exact (hk t (by rw [hr]; simp)).1 (by simpa using e)
theorem post_num {ts : List Tk} (hk : TkOK ts) : Post (kindB z 1 ts) (fun t ts' => t.num ≤ 9223372036854775807 ∧ One ts.length ts') := by
  unfold kindB
  refine post_look fun t ht => post_if (fun e => ?_) (fun _ => post_err)
  have hc := kind_cons ht (by decide) e
  refine post_ok ⟨?_, one_tail hc hk⟩
  obtain ⟨r, hr⟩ := hc
  exact (hk t (by rw [hr]; simp)).2 (by simpa using e)
theorem nice_leaf {k p : Nat} {x : List UInt8} {m : Int} (hk : k = 4 ∨ k = 5 ∨ k = 6 ∨ k = 15 ∨ k = 23 ∨ k = 24 ∨ k = 25 ∨ k = 26) (hx : x.length ≤ 20) : Nice (.mk k p x m []) ∧ nodes (.mk k p x m []) = 1 := by
  refine ⟨?_, by simp [nodes, nodesL]⟩
  rw [Nice]
  exact ⟨hx, .inl ⟨hk, rfl⟩, by simp [NiceL]⟩
theorem post_named {ts : List Tk} (hk : TkOK ts) : Post (namedB z ts) (fun a ts' => (Nice a ∧ nodes a = 1 ∧ a.kind = 23) ∧ One ts.length ts') := by
  unfold namedB
  refine post_bnd (post_name hk) fun t ts' h => post_ok ⟨?_, h.2⟩
  have := nice_leaf (k := 23) (p := t.pos) (x := t.text) (m := 0) (by omega) h.1
  exact ⟨this.1, this.2, rfl⟩
/-- An answer of a reader: what it read, and that it read enough tokens. -/
def QE (n : Nat) (a : Tr) (ts : List Tk) : Prop := Nice a ∧ isE a ∧ nodes a + 1 + 2 * ts.length ≤ 2 * n ∧ TkOK ts
def QT (n : Nat) (a : Tr) (ts : List Tk) : Prop := Nice a ∧ isT a ∧ nodes a + 1 + 2 * ts.length ≤ 2 * n ∧ TkOK ts
def RE (F : List Tk → R Tr) : Prop := ∀ ts, TkOK ts → Post (F ts) (QE ts.length)
def RT (F : List Tk → R Tr) : Prop := ∀ ts, TkOK ts → Post (F ts) (QT ts.length)

theorem isTk {k p : Nat} {x : List UInt8} {m : Int} {l : List Tr} (h : 24 ≤ k ∧ k ≤ 29) : isT (.mk k p x m l) := h
theorem isEk {k p : Nat} {x : List UInt8} {m : Int} {l : List Tr} (h : 3 ≤ k ∧ k ≤ 20) : isE (.mk k p x m l) := h

/- types -/
theorem row_nice : ∀ (n : Nat) (l : List Tr) (ts : List Tk), TkOK ts → Post (rowB z n l ts) (fun l' ts' => ∃ ns, l' = l ++ ns ∧ NiceL ns ∧ (∀ q ∈ ns, q.kind = 23) ∧ nodesL ns + ts'.length ≤ ts.length ∧ TkOK ts') := by
  intro n
  induction n with
  | zero => intro l ts _; exact post_look fun _ _ => post_err
  | succ n ih =>
    intro l ts hk
    rw [rowB]
    refine post_bnd (post_named hk) fun x ts1 h1 => post_ite (by decide) h1.2.2 (fun ts2 h2 => (ih _ ts2 h2.2).mono ?_) (post_ok ?_)
    · rintro l' ts' ⟨ns, rfl, g1, g2, g3, g4⟩
      refine ⟨x :: ns, by simp, ?_, ?_, ?_, g4⟩
      · rw [NiceL]; exact ⟨h1.1.1, g1⟩
      · intro q hq
        rcases List.mem_cons.1 hq with rfl | hq
        · exact h1.1.2.2
        · exact g2 q hq
      · rw [nodesL, h1.1.2.1]
        have := h1.2.1
        have := h2.1
        omega
    · refine ⟨[x], rfl, ?_, ?_, ?_, h1.2.2⟩
      · simp [NiceL, h1.1.1]
      · intro q hq
        rw [List.mem_singleton.1 hq]
        exact h1.1.2.2
      · simp only [nodesL, h1.1.2.1]
        have := h1.2.1
        omega
theorem lists_nice : ∀ (n : Nat) (a : Tr) (ts : List Tk) (k : Nat), QT k a ts → Post (listsB z n a ts) (QT k) := by
  intro n
  induction n with
  | zero => intro a ts k _; exact post_look fun _ _ => post_err
  | succ n ih =>
    intro a ts k h
    rw [listsB]
    refine post_ite (by decide) h.2.2.2 (fun ts1 h1 => ih _ ts1 k ⟨?_, isTk (by decide), ?_, h1.2⟩) (post_ok h)
    · show Nice (.mk 27 a.pos [] 0 [a])
      rw [Nice]
      exact ⟨by simp, .inr (.inr (.inr (.inl ⟨rfl, a, rfl, h.2.1⟩))), by simp [NiceL, h.1]⟩
    · show nodes (.mk 27 a.pos [] 0 [a]) + 1 + 2 * ts1.length ≤ 2 * k
      simp only [nodes, nodesL]
      have := h.2.2.1
      have := h1.1
      omega
theorem nd_leafT (k p : Nat) (hk : k = 24 ∨ k = 25 ∨ k = 26) : Nice (nd k p []) ∧ nodes (nd k p []) = 1 ∧ isT (nd k p []) :=
  ⟨(nice_leaf (by omega) (by simp)).1, (nice_leaf (x := []) (m := 0) (p := p) (by omega : k = 4 ∨ k = 5 ∨ k = 6 ∨ k = 15 ∨ k = 23 ∨ k = 24 ∨ k = 25 ∨ k = 26) (by simp)).2, by show 24 ≤ k; omega, by show k ≤ 29; omega⟩
theorem tatom_nice {T : List Tk → R Tr} (hT : RT T) : RT (tatomB z T) := by
  intro ts hk
  unfold tatomB
  refine post_look fun t ht => post_if (fun e => ?_) (fun _ => post_if (fun e => ?_) (fun _ => post_if (fun e => ?_) (fun _ => post_if (fun e => ?_) (fun _ => post_err))))
  · have h0 := one_tail (text_cons ht (by decide) e) hk
    refine post_bnd (hT _ h0.2) fun a ts1 h1 => post_bnd (post_need (by decide) h1.2.2.2) fun _ ts2 h2 => post_ok ⟨h1.1, h1.2.1, ?_, h2.2⟩
    have := h1.2.2.1
    have := h0.1
    have := h2.1
    omega
  all_goals
    have h0 := one_tail (text_cons ht (by decide) e) hk
    refine post_ok ⟨(nd_leafT _ _ (by omega)).1, (nd_leafT _ _ (by omega)).2.2, ?_, h0.2⟩
    rw [(nd_leafT _ _ (by omega)).2.1]
    have := h0.1
    omega
theorem some_nice {T : List Tk → R Tr} (hT : RT T) : RT (someB z N T) := by
  intro ts hk
  unfold someB
  exact post_bnd (tatom_nice hT ts hk) fun a ts1 h1 => lists_nice N a ts1 ts.length h1
theorem nice2T {k p : Nat} {a b : Tr} (hk : k = 28) (ha : Nice a ∧ isT a) (hb : Nice b ∧ isT b) : Nice (nd k p [a, b]) := by
  subst hk
  show Nice (.mk 28 p [] 0 [a, b])
  rw [Nice]
  exact ⟨by simp, .inr (.inr (.inr (.inr (.inr (.inl ⟨.inr rfl, a, b, rfl, ha.2, hb.2⟩))))), by simp [NiceL, ha.1, hb.1]⟩
theorem pair_nice {T : List Tk → R Tr} (hT : RT T) : ∀ n, RT (pairB z N T n) := by
  intro n
  induction n with
  | zero => intro ts _; exact post_look fun _ _ => post_err
  | succ n ih =>
    intro ts hk
    rw [pairB]
    refine post_bnd (some_nice hT ts hk) fun a ts1 h1 => post_ite (by decide) h1.2.2.2 (fun ts2 h2 => post_bnd (ih ts2 h2.2) fun b ts3 h3 => post_ok ⟨nice2T rfl ⟨h1.1, h1.2.1⟩ ⟨h3.1, h3.2.1⟩, isTk (by decide), ?_, h3.2.2.2⟩) (post_ok h1)
    show nodes (.mk 28 a.pos [] 0 [a, b]) + 1 + 2 * ts3.length ≤ 2 * ts.length
    simp only [nodes, nodesL]
    have := h1.2.2.1
    have := h2.1
    have := h3.2.2.1
    omega
theorem nice29 {p : Nat} {a b : Tr} {ns : List Tr} (ha : Nice a ∧ isT a) (hb : Nice b ∧ isT b) (hn : NiceL ns) (hq : ∀ q ∈ ns, q.kind = 23) : Nice (nd 29 p ([a, b] ++ ns)) := by
  show Nice (.mk 29 p [] 0 ([a, b] ++ ns))
  rw [Nice]
  refine ⟨by simp, ?_, by simp [NiceL, ha.1, hb.1, hn]⟩
  exact .inr (.inr (.inr (.inr (.inr (.inr (.inr (.inr (.inr (.inr (.inr (.inl ⟨rfl, a, b, ns, rfl, ha.2, hb.2, hq⟩)))))))))))
theorem typBody_nice {T : List Tk → R Tr} (hT : RT T) : RT (typBodyB z N T) := by
  intro ts hk
  unfold typBodyB
  refine post_bnd (pair_nice hT N ts hk) fun a ts1 h1 => post_ite (by decide) h1.2.2.2 (fun ts2 h2 => ?_) (post_ite (by decide) h1.2.2.2 (fun ts2 h2 => ?_) (post_ok h1))
  · refine post_bnd (post_need (by decide) h2.2) fun _ ts3 h3 => post_bnd (row_nice N [] ts3 h3.2) fun l ts4 h4 => ?_
    obtain ⟨ns, rfl, g1, g2, g3, g4⟩ := h4
    refine post_bnd (post_need (by decide) g4) fun _ ts5 h5 => post_bnd (post_need (by decide) h5.2) fun _ ts6 h6 => post_bnd (hT ts6 h6.2) fun b ts7 h7 => post_ok ⟨?_, isTk (by decide), ?_, h7.2.2.2⟩
    · exact nice29 ⟨h1.1, h1.2.1⟩ ⟨h7.1, h7.2.1⟩ g1 g2
    · show nodes (.mk 29 a.pos [] 0 ([a, b] ++ l)) + 1 + 2 * ts7.length ≤ 2 * ts.length
      simp only [nodes, nodesL, List.nil_append, List.cons_append]
      have := h1.2.2.1
      have := h2.1
      have := h3.1
      have := h5.1
      have := h6.1
      have := h7.2.2.1
      omega
  · refine post_bnd (hT ts2 h2.2) fun b ts3 h3 => post_ok ⟨?_, isTk (by decide), ?_, h3.2.2.2⟩
    · exact nice29 (ns := []) ⟨h1.1, h1.2.1⟩ ⟨h3.1, h3.2.1⟩ (by simp [NiceL]) (by simp)
    · show nodes (.mk 29 a.pos [] 0 [a, b]) + 1 + 2 * ts3.length ≤ 2 * ts.length
      simp only [nodes, nodesL]
      have := h1.2.2.1
      have := h2.1
      have := h3.2.2.1
      omega
theorem typ_nice : ∀ n, RT (typB z N n) := by
  intro n
  induction n with
  | zero => intro ts _; exact post_look fun _ _ => post_err
  | succ n ih =>
    intro ts hk
    rw [typB]
    exact post_look fun _ _ => typBody_nice ih ts hk
end Go.Proofs.YtedppdcknkcbjaaGreatDoor

namespace Go.Proofs.YtedppdcknkcbjaaGreatDoor
open Sy Lx
variable {z : Env} {N : Nat}

theorem nice1E {k p : Nat} {x : List UInt8} {m : Int} {a : Tr} (hk : k = 7 ∨ k = 13 ∨ k = 14 ∨ k = 19 ∨ k = 21) (hx : x.length ≤ 20) (ha : Nice a) (he : isE a) : Nice (.mk k p x m [a]) := by
  rw [Nice]
  exact ⟨hx, .inr (.inr (.inl ⟨hk, a, rfl, he⟩)), by simp [NiceL, ha]⟩
theorem nice2E {k p : Nat} {x : List UInt8} {m : Int} {a b : Tr} (hk : k = 8 ∨ (k = 9 ∧ m ≠ 1) ∨ k = 10 ∨ k = 12 ∨ k = 16 ∨ (k = 18 ∧ fiveS x)) (hx : x.length ≤ 20) (ha : Nice a) (hea : isE a) (hb : Nice b) (heb : isE b) : Nice (.mk k p x m [a, b]) := by
  rw [Nice]
  exact ⟨hx, .inr (.inr (.inr (.inr (.inl ⟨hk, a, b, rfl, hea, heb⟩)))), by simp [NiceL, ha, hb]⟩
theorem nodes1 {k p : Nat} {x : List UInt8} {m : Int} {a : Tr} : nodes (.mk k p x m [a]) = nodes a + 1 := by simp only [nodes, nodesL]; omega
theorem nodes2 {k p : Nat} {x : List UInt8} {m : Int} {a b : Tr} : nodes (.mk k p x m [a, b]) = nodes a + nodes b + 1 := by simp only [nodes, nodesL]; omega
theorem niceLeafE {k p : Nat} {x : List UInt8} {m : Int} (hk : k = 4 ∨ k = 5 ∨ k = 6 ∨ k = 15) (hx : x.length ≤ 20) : Nice (.mk k p x m []) ∧ nodes (.mk k p x m []) = 1 ∧ isE (.mk k p x m []) :=
  ⟨(nice_leaf (by omega) hx).1, (nice_leaf (by omega) hx).2, isEk (by omega)⟩
theorem niceInt {p : Nat} {m : Int} (h : -9223372036854775807 ≤ m ∧ m ≤ 9223372036854775807) : Nice (.mk 3 p [] m []) ∧ nodes (.mk 3 p [] m []) = 1 := by
  refine ⟨?_, by simp [nodes, nodesL]⟩
  rw [Nice]
  exact ⟨by simp, .inr (.inl ⟨rfl, rfl, h⟩), by simp [NiceL]⟩

theorem squares_nice {E : List Tk → R Tr} (hE : RE E) : ∀ (n : Nat) (l : List Tr) (ts : List Tk), TkOK ts →
    Post (squaresB z E n l ts) (fun l' ts' => ∃ ns, l' = l ++ ns ∧ ns ≠ [] ∧ NiceL ns ∧ (∀ q ∈ ns, isE q) ∧ nodesL ns + ns.length + 2 * ts'.length + 2 * (ns.length - 1) ≤ 2 * ts.length ∧ TkOK ts') := by
  intro n
  induction n with
  | zero => intro l ts _; exact post_look fun _ _ => post_err
  | succ n ih =>
    intro l ts hk
    rw [squaresB]
    refine post_bnd (hE ts hk) fun a ts1 h1 => post_ite (by decide) h1.2.2.2 (fun ts2 h2 => (ih _ ts2 h2.2).mono ?_) (post_ok ?_)
    · rintro l' ts' ⟨ns, rfl, g0, g1, g2, g3, g4⟩
      refine ⟨a :: ns, by simp, by simp, ?_, ?_, ?_, g4⟩
      · rw [NiceL]; exact ⟨h1.1, g1⟩
      · intro q hq
        rcases List.mem_cons.1 hq with rfl | hq
        · exact h1.2.1
        · exact g2 q hq
      · have h3 : 1 ≤ ns.length := List.length_pos_iff.2 g0
        simp only [nodesL, List.length_cons]
        have := h1.2.2.1
        have := h2.1
        omega
    · refine ⟨[a], rfl, by simp, by simp [NiceL, h1.1], ?_, ?_, h1.2.2.2⟩
      · intro q hq
        rw [List.mem_singleton.1 hq]
        exact h1.2.1
      · simp only [nodesL, List.length_cons, List.length_nil]
        have := h1.2.2.1
        omega
theorem consUp_nice (p : Nat) : ∀ (l : List Tr), NiceL l → (∀ q ∈ l, isE q) → Nice (consUp l (nd 15 p [])) ∧ isE (consUp l (nd 15 p [])) ∧ nodes (consUp l (nd 15 p [])) = nodesL l + l.length + 1 := by
  intro l
  induction l with
  | nil =>
    intro _ _
    have := niceLeafE (k := 15) (p := p) (x := []) (m := 0) (by omega) (by simp)
    exact ⟨this.1, this.2.2, by simp only [nodesL, List.length_nil]; exact this.2.1⟩
  | cons a l ih =>
    intro h1 h2
    rw [NiceL] at h1
    obtain ⟨i1, i2, i3⟩ := ih h1.2 (fun q hq => h2 q (by simp [hq]))
    have e : consUp (a :: l) (nd 15 p []) = .mk 16 a.pos [] 0 [a, consUp l (nd 15 p [])] := rfl
    rw [e]
    refine ⟨nice2E (by omega) (by simp) h1.1 (h2 a (by simp)) i1 i2, isEk (by decide), ?_⟩
    rw [nodes2, i3]
    simp only [nodesL, List.length_cons]
    omega
theorem square_nice {E : List Tk → R Tr} (hE : RE E) (p : Nat) : ∀ ts n, One n ts → Post (squareB z N E p ts) (QE n) := by
  intro ts n h0
  unfold squareB
  refine post_ite (by decide) h0.2 (fun ts1 h1 => post_ok ?_) ?_
  · have := niceLeafE (k := 15) (p := p) (x := []) (m := 0) (by omega) (by simp)
    refine ⟨this.1, this.2.2, ?_, h1.2⟩
    have e := this.2.1
    show nodes (.mk 15 p [] 0 []) + 1 + 2 * ts1.length ≤ 2 * n
    have := h0.1
    have := h1.1
    omega
  · refine post_bnd (squares_nice hE N [] ts h0.2) fun l ts1 h1 => ?_
    obtain ⟨ns, rfl, g0, g1, g2, g3, g4⟩ := h1
    refine post_bnd (post_need (by decide) g4) fun _ ts2 h2 => post_ok ?_
    obtain ⟨c1, c2, c3⟩ := consUp_nice p _ g1 g2
    refine ⟨c1, c2, ?_, h2.2⟩
    have h3 := List.length_pos_iff.2 g0
    rw [c3]
    have := h0.1
    have := h2.1
    omega
theorem round_nice {E : List Tk → R Tr} (hE : RE E) (p : Nat) : ∀ ts n, One n ts → Post (roundB z E p ts) (QE n) := by
  intro ts n h0
  unfold roundB
  refine post_ite (by decide) h0.2 (fun ts1 h1 => post_ok ?_) ?_
  · have := niceLeafE (k := 5) (p := p) (x := []) (m := 0) (by omega) (by simp)
    refine ⟨this.1, this.2.2, ?_, h1.2⟩
    have e := this.2.1
    show nodes (.mk 5 p [] 0 []) + 1 + 2 * ts1.length ≤ 2 * n
    have := h0.1
    have := h1.1
    omega
  · refine post_bnd (hE ts h0.2) fun a ts1 h1 => post_ite (by decide) h1.2.2.2 (fun ts2 h2 => ?_) ?_
    · refine post_bnd (hE ts2 h2.2) fun b ts3 h3 => post_bnd (post_need (by decide) h3.2.2.2) fun _ ts4 h4 => post_ok ⟨nice2E (by omega) (by simp) h1.1 h1.2.1 h3.1 h3.2.1, isEk (by decide), ?_, h4.2⟩
      show nodes (.mk 12 p [] 0 [a, b]) + 1 + 2 * ts4.length ≤ 2 * n
      rw [nodes2]
      have := h0.1
      have := h1.2.2.1
      have := h2.1
      have := h3.2.2.1
      have := h4.1
      omega
    · refine post_bnd (post_need (by decide) h1.2.2.2) fun _ ts4 h4 => post_ok ⟨h1.1, h1.2.1, ?_, h4.2⟩
      have := h0.1
      have := h1.2.2.1
      have := h4.1
      omega
theorem atom_nice {E : List Tk → R Tr} (hE : RE E) : RE (atomB z N E) := by
  intro ts hk
  unfold atomB
  refine post_look fun t ht => post_if (fun e => ?_) (fun _ => post_if (fun e => ?_) (fun _ => post_if (fun e => ?_) (fun _ => post_if (fun e => ?_) (fun _ => post_if (fun e => ?_) (fun _ => post_if (fun e => ?_) (fun _ => post_if (fun e => ?_) (fun _ => post_err)))))))
  · have hc := kind_cons ht (by decide) e
    have h0 := one_tail hc hk
    obtain ⟨r, hr⟩ := hc
    have hx := (hk t (by rw [hr]; simp)).1 (by simpa using e)
    have := niceLeafE (k := 6) (p := t.pos) (x := t.text) (m := 0) (by omega) hx
    refine post_ok ⟨this.1, this.2.2, ?_, h0.2⟩
    have e := this.2.1
    show nodes (.mk 6 t.pos t.text 0 []) + 1 + 2 * ts.tail.length ≤ 2 * ts.length
    have := h0.1
    omega
  · have hc := kind_cons ht (by decide) e
    have h0 := one_tail hc hk
    obtain ⟨r, hr⟩ := hc
    have hx := (hk t (by rw [hr]; simp)).2 (by simpa using e)
    have := niceInt (p := t.pos) (m := t.num) (by omega)
    refine post_ok ⟨this.1, isEk (by decide), ?_, h0.2⟩
    have e := this.2
    have := h0.1
    omega
  · have h0 := one_tail (text_cons ht (by decide) e) hk
    refine post_bnd (post_num h0.2) fun u ts1 h1 => post_ok ?_
    have := niceInt (p := t.pos) (m := -u.num) (by have := h1.1; omega)
    refine ⟨this.1, isEk (by decide), ?_, h1.2.2⟩
    have e := this.2
    have := h0.1
    have := h1.2.1
    omega
  · have h0 := one_tail (text_cons ht (by decide) e) hk
    have := niceLeafE (k := 4) (p := t.pos) (x := []) (m := 1) (by omega) (by simp)
    refine post_ok ⟨this.1, this.2.2, ?_, h0.2⟩
    have e := this.2.1
    have := h0.1
    omega
  · have h0 := one_tail (text_cons ht (by decide) e) hk
    have := niceLeafE (k := 4) (p := t.pos) (x := []) (m := 0) (by omega) (by simp)
    refine post_ok ⟨this.1, this.2.2, ?_, h0.2⟩
    have e := this.2.1
    show nodes (.mk 4 t.pos [] 0 []) + 1 + 2 * ts.tail.length ≤ 2 * ts.length
    have := h0.1
    omega
  · exact round_nice hE _ _ _ (one_tail (text_cons ht (by decide) e) hk)
  · exact square_nice hE _ _ _ (one_tail (text_cons ht (by decide) e) hk)
theorem apps_nice {E : List Tk → R Tr} (hE : RE E) : ∀ (n : Nat) (a : Tr) (ts : List Tk) (k : Nat), QE k a ts → Post (appsB z N E n a ts) (QE k) := by
  intro n
  induction n with
  | zero => intro a ts k _; exact post_look fun _ _ => post_err
  | succ n ih =>
    intro a ts k h
    rw [appsB]
    refine post_look fun t _ => post_if (fun _ => post_bnd (atom_nice hE ts h.2.2.2) fun b ts1 h1 => ih _ ts1 k ⟨nice2E (by omega) (by simp) h.1 h.2.1 h1.1 h1.2.1, isEk (by decide), ?_, h1.2.2.2⟩) (fun _ => post_ok h)
    show nodes (.mk 8 a.pos [] 0 [a, b]) + 1 + 2 * ts1.length ≤ 2 * k
    rw [nodes2]
    have := h.2.2.1
    have := h1.2.2.1
    omega
theorem app_nice {E : List Tk → R Tr} (hE : RE E) : RE (appB z N E) := by
  intro ts hk
  unfold appB
  refine post_look fun t ht => post_if (fun e => ?_) (fun _ => post_if (fun e => ?_) (fun _ => post_if (fun e => ?_) (fun _ => ?_)))
  · have h0 := one_tail (text_cons ht (by decide) e) hk
    refine post_bnd (post_name h0.2) fun x ts1 h1 => post_bnd (atom_nice hE ts1 h1.2.2) fun a ts2 h2 => post_ok ⟨nice1E (by omega) h1.1 h2.1 h2.2.1, isEk (by decide), ?_, h2.2.2.2⟩
    show nodes (.mk 19 t.pos x.text 0 [a]) + 1 + 2 * ts2.length ≤ 2 * ts.length
    rw [nodes1]
    have := h0.1
    have := h1.2.1
    have := h2.2.2.1
    omega
  · have h0 := one_tail (text_cons ht (by decide) e) hk
    refine post_bnd (atom_nice hE _ h0.2) fun a ts2 h2 => post_ok ⟨nice1E (by omega) (by simp) h2.1 h2.2.1, isEk (by decide), ?_, h2.2.2.2⟩
    show nodes (.mk 13 t.pos [] 0 [a]) + 1 + 2 * ts2.length ≤ 2 * ts.length
    rw [nodes1]
    have := h0.1
    have := h2.2.2.1
    omega
  · have h0 := one_tail (text_cons ht (by decide) e) hk
    refine post_bnd (atom_nice hE _ h0.2) fun a ts2 h2 => post_ok ⟨nice1E (by omega) (by simp) h2.1 h2.2.1, isEk (by decide), ?_, h2.2.2.2⟩
    show nodes (.mk 14 t.pos [] 0 [a]) + 1 + 2 * ts2.length ≤ 2 * ts.length
    rw [nodes1]
    have := h0.1
    have := h2.2.2.1
    omega
  · exact post_bnd (atom_nice hE ts hk) fun a ts1 h1 => apps_nice hE N a ts1 _ h1
theorem op_nice {x : List UInt8} {a b : Tr} {k : Nat} {ts0 ts1 ts2 : List Tk} (hx : fiveS x) (h : QE k a ts0) (h0 : One ts0.length ts1) (h1 : QE ts1.length b ts2) : QE k (op2 x a b) ts2 := by
  have hx2 : x.length ≤ 20 := by rcases hx with rfl | rfl | rfl | rfl | rfl <;> decide
  refine ⟨nice2E (.inr (.inr (.inr (.inr (.inr ⟨rfl, hx⟩))))) hx2 h.1 h.2.1 h1.1 h1.2.1, isEk (by decide), ?_, h1.2.2.2⟩
  show nodes (.mk 18 a.pos x 0 [a, b]) + 1 + 2 * ts2.length ≤ 2 * k
  rw [nodes2]
  have := h.2.2.1
  have := h0.1
  have := h1.2.2.1
  omega
theorem muls_nice {E : List Tk → R Tr} (hE : RE E) : ∀ (n : Nat) (a : Tr) (ts : List Tk) (k : Nat), QE k a ts → Post (mulsB z N E n a ts) (QE k) := by
  intro n
  induction n with
  | zero => intro a ts k _; exact post_look fun _ _ => post_err
  | succ n ih =>
    intro a ts k h
    rw [mulsB]
    exact post_ite (by decide) h.2.2.2 (fun ts1 h1 => post_bnd (app_nice hE ts1 h1.2) fun b ts2 h2 => ih _ ts2 k (op_nice (.inr (.inr (.inl rfl))) h h1 h2)) (post_ok h)
theorem mul_nice {E : List Tk → R Tr} (hE : RE E) : RE (mulB z N E) := by
  intro ts hk
  unfold mulB
  exact post_bnd (app_nice hE ts hk) fun a ts1 h1 => muls_nice hE N a ts1 _ h1
theorem sums_nice {E : List Tk → R Tr} (hE : RE E) : ∀ (n : Nat) (a : Tr) (ts : List Tk) (k : Nat), QE k a ts → Post (sumsB z N E n a ts) (QE k) := by
  intro n
  induction n with
  | zero => intro a ts k _; exact post_look fun _ _ => post_err
  | succ n ih =>
    intro a ts k h
    rw [sumsB]
    refine post_look fun t ht => post_if (fun e => ?_) (fun _ => post_ok h)
    have hx : fiveS t.text ∧ ∃ r, ts = t :: r := by
      rcases Bool.or_eq_true_iff.1 e with e | e
      · exact ⟨.inl (by simpa [s_plus] using e), text_cons ht (by decide) e⟩
      · exact ⟨.inr (.inl (by simpa [s_minus] using e)), text_cons ht (by decide) e⟩
    have h0 := one_tail hx.2 h.2.2.2
    exact post_bnd (mul_nice hE _ h0.2) fun b ts2 h2 => ih _ ts2 k (op_nice hx.1 h h0 h2)
theorem sum_nice {E : List Tk → R Tr} (hE : RE E) : RE (sumB z N E) := by
  intro ts hk
  unfold sumB
  exact post_bnd (mul_nice hE ts hk) fun a ts1 h1 => sums_nice hE N a ts1 _ h1
theorem cons_nice {E : List Tk → R Tr} (hE : RE E) : ∀ n, RE (consB z N E n) := by
  intro n
  induction n with
  | zero => intro ts _; exact post_look fun _ _ => post_err
  | succ n ih =>
    intro ts hk
    rw [consB]
    refine post_bnd (sum_nice hE ts hk) fun a ts1 h1 => post_ite (by decide) h1.2.2.2 (fun ts2 h2 => post_bnd (ih ts2 h2.2) fun b ts3 h3 => post_ok ⟨nice2E (by omega) (by simp) h1.1 h1.2.1 h3.1 h3.2.1, isEk (by decide), ?_, h3.2.2.2⟩) (post_ok h1)
    show nodes (.mk 16 a.pos [] 0 [a, b]) + 1 + 2 * ts3.length ≤ 2 * ts.length
    rw [nodes2]
    have := h1.2.2.1
    have := h2.1
    have := h3.2.2.1
    omega
theorem comp_nice {E : List Tk → R Tr} (hE : RE E) : RE (compB z N E) := by
  intro ts hk
  unfold compB
  refine post_bnd (cons_nice hE N ts hk) fun a ts1 h1 => post_look fun t ht => post_if (fun e => ?_) (fun _ => post_ok h1)
  have hx : fiveS t.text ∧ ∃ r, ts1 = t :: r := by
    rcases Bool.or_eq_true_iff.1 e with e | e
    · exact ⟨.inr (.inr (.inr (.inr (by simpa [s_eqeq] using e)))), text_cons ht (by decide) e⟩
    · exact ⟨.inr (.inr (.inr (.inl (by simpa [s_lt] using e)))), text_cons ht (by decide) e⟩
  have h0 := one_tail hx.2 h1.2.2.2
  exact post_bnd (cons_nice hE N _ h0.2) fun b ts2 h2 => post_ok (op_nice hx.1 h1 h0 h2)
theorem seq_nice {E : List Tk → R Tr} (hE : RE E) : RE (seqB z N E) := by
  intro ts hk
  unfold seqB
  refine post_bnd (comp_nice hE ts hk) fun a ts1 h1 => post_ite (by decide) h1.2.2.2 (fun ts2 h2 => post_bnd (hE ts2 h2.2) fun b ts3 h3 => post_ok ⟨nice2E (by omega) (by simp) h1.1 h1.2.1 h3.1 h3.2.1, isEk (by decide), ?_, h3.2.2.2⟩) (post_ok h1)
  show nodes (.mk 10 a.pos [] 0 [a, b]) + 1 + 2 * ts3.length ≤ 2 * ts.length
  rw [nodes2]
  have := h1.2.2.1
  have := h2.1
  have := h3.2.2.1
  omega
theorem names_nice (least : Nat) : ∀ (n : Nat) (l ts : List Tk), TkOK ts → (∀ t ∈ l, t.text.length ≤ 20) → Post (namesB z least n l ts) (fun l' ts' => (∀ t ∈ l', t.text.length ≤ 20) ∧ least ≤ l'.length ∧ l'.length + ts'.length = l.length + ts.length ∧ TkOK ts') := by
  intro n
  induction n with
  | zero => intro l ts _ _; exact post_look fun _ _ => post_err
  | succ n ih =>
    intro l ts hk hl
    rw [namesB]
    have step : Post (bnd (kindB z 2 ts) fun t ts => namesB z least n (l ++ [t]) ts) (fun l' ts' => (∀ t ∈ l', t.text.length ≤ 20) ∧ least ≤ l'.length ∧ l'.length + ts'.length = l.length + ts.length ∧ TkOK ts') := by
      refine post_bnd (post_name hk) fun t ts1 h1 => (ih (l ++ [t]) ts1 h1.2.2 (fun u hu => ?_)).mono ?_
      · rcases List.mem_append.1 hu with hu | hu
        · exact hl u hu
        · rw [List.mem_singleton.1 hu]; exact h1.1
      · rintro l' ts' ⟨g1, g2, g3, g4⟩
        refine ⟨g1, g2, ?_, g4⟩
        rw [List.length_append] at g3
        simp only [List.length_cons, List.length_nil] at g3
        have := h1.2.1
        omega
    refine post_if (fun _ => step) (fun hlt => post_look fun t _ => post_if (fun _ => step) (fun _ => post_ok ⟨hl, by omega, rfl, hk⟩))
theorem fns_nice (b : Tr) (hb : Nice b) (he : isE b) : ∀ (l : List Tk), (∀ t ∈ l, t.text.length ≤ 20) → Nice (fns l b) ∧ isE (fns l b) ∧ nodes (fns l b) = l.length + nodes b ∧ (l ≠ [] → (fns l b).kind = 7) := by
  intro l
  induction l with
  | nil => intro _; exact ⟨hb, he, by show nodes b = _; simp, fun h => absurd rfl h⟩
  | cons t l ih =>
    intro h
    obtain ⟨i1, i2, i3, _⟩ := ih (fun u hu => h u (by simp [hu]))
    have e : fns (t :: l) b = .mk 7 t.pos t.text 0 [fns l b] := rfl
    rw [e]
    refine ⟨nice1E (by omega) (h t (by simp)) i1 i2, isEk (by decide), ?_, fun _ => rfl⟩
    rw [nodes1, i3, List.length_cons]
    omega
theorem bind_nice {E : List Tk → R Tr} (hE : RE E) (least : Nat) (ts : List Tk) (hk : TkOK ts) :
    Post (bindB z N E least ts) (fun d ts' => (d.1 = 0 ∨ d.1 = 1) ∧ d.2.1.length ≤ 20 ∧ Nice d.2.2 ∧ isE d.2.2 ∧ ((d.1 = 1 ∨ 1 ≤ least) → d.2.2.kind = 7) ∧ nodes d.2.2 + 4 + 2 * ts'.length ≤ 2 * ts.length ∧ TkOK ts') := by
  unfold bindB
  refine post_ite (by decide) hk (fun ts1 h1 => ?_) ?_
  · refine post_bnd (post_name h1.2) fun x ts2 h2 => post_bnd (names_nice 1 N [] ts2 h2.2.2 (by simp)) fun l ts3 h3 => post_bnd (post_need (by decide) h3.2.2.2) fun _ ts4 h4 => post_bnd (hE ts4 h4.2) fun b ts5 h5 => post_ok ?_
    obtain ⟨f1, f2, f3, f4⟩ := fns_nice b h5.1 h5.2.1 l h3.1
    refine ⟨.inr rfl, h2.1, f1, f2, fun _ => f4 (List.length_pos_iff.1 h3.2.1), ?_, h5.2.2.2⟩
    show nodes (fns l b) + 4 + 2 * ts5.length ≤ 2 * ts.length
    rw [f3]
    have := h1.1
    have := h2.2.1
    have := h3.2.2.1
    have := h4.1
    have := h5.2.2.1
    simp only [List.length_nil] at *
    omega
  · refine post_bnd (post_name hk) fun x ts2 h2 => post_bnd (names_nice least N [] ts2 h2.2.2 (by simp)) fun l ts3 h3 => post_bnd (post_need (by decide) h3.2.2.2) fun _ ts4 h4 => post_bnd (hE ts4 h4.2) fun b ts5 h5 => post_ok ?_
    obtain ⟨f1, f2, f3, f4⟩ := fns_nice b h5.1 h5.2.1 l h3.1
    refine ⟨.inl rfl, h2.1, f1, f2, fun h => f4 (List.length_pos_iff.1 ?_), ?_, h5.2.2.2⟩
    · rcases h with h | h
      · cases h
      · have := h3.2.1; omega
    · show nodes (fns l b) + 4 + 2 * ts5.length ≤ 2 * ts.length
      rw [f3]
      have := h2.2.1
      have := h3.2.2.1
      have := h4.1
      have := h5.2.2.1
      simp only [List.length_nil] at *
      omega
theorem take_nice {α : Type} {ts : List Tk} {t0 : Tk} (h : ∃ r, ts = t0 :: r) (hk : TkOK ts) {f : Tk → List Tk → R α} {Q : α → List Tk → Prop} (hf : ∀ ts', One ts.length ts' → Post (f t0 ts') Q) : Post (bnd (takeB z ts) f) Q := by
  have h0 := one_tail h hk
  obtain ⟨r, rfl⟩ := h
  exact hf r h0
theorem let_nice {E : List Tk → R Tr} (hE : RE E) {ts : List Tk} {t0 : Tk} (h : ∃ r, ts = t0 :: r) (hk : TkOK ts) : Post (letB z N E ts) (QE ts.length) := by
  unfold letB
  refine take_nice h hk fun ts1 h1 => post_bnd (bind_nice hE 0 ts1 h1.2) fun d ts2 h2 => post_bnd (post_need (by decide) h2.2.2.2.2.2.2) fun _ ts3 h3 => post_bnd (hE ts3 h3.2) fun b ts4 h4 => post_ok ?_
  obtain ⟨d1, d2, d3, d4, d5, d6, d7⟩ := h2
  refine ⟨?_, isEk (by decide), ?_, h4.2.2.2⟩
  · rcases d1 with e | e
    · exact nice2E (.inr (.inl ⟨rfl, by rw [e]; decide⟩)) d2 d3 d4 h4.1 h4.2.1
    · rw [Nice]
      refine ⟨d2, ?_, by simp [NiceL, d3, h4.1]⟩
      exact .inr (.inr (.inr (.inr (.inr (.inr (.inl ⟨rfl, e, d.2.2, b, rfl, d5 (.inl e), h4.2.1⟩))))))
  · rw [nodes2]
    have := h1.1
    have := h3.1
    have := h4.2.2.1
    omega
theorem at_nice {k p q : Nat} {x : List UInt8} {m : Int} {l : List Tr} (h : Nice (.mk k p x m l)) : Nice (.mk k q x m l) := by
  rw [Nice] at h ⊢
  exact h
theorem fn_nice {E : List Tk → R Tr} (hE : RE E) {ts : List Tk} {t0 : Tk} (h : ∃ r, ts = t0 :: r) (hk : TkOK ts) : Post (fnB z N E ts) (QE ts.length) := by
  unfold fnB
  refine take_nice h hk fun ts1 h1 => post_bnd (names_nice 1 N [] ts1 h1.2 (by simp)) fun l ts2 h2 => post_bnd (post_need (by decide) h2.2.2.2) fun _ ts3 h3 => post_bnd (hE ts3 h3.2) fun b ts4 h4 => post_ok ?_
  obtain ⟨f1, f2, f3, f4⟩ := fns_nice b h4.1 h4.2.1 l h2.1
  have e1 : Nice ((fns l b).at t0.pos) ∧ isE ((fns l b).at t0.pos) ∧ nodes ((fns l b).at t0.pos) = nodes (fns l b) := by
    generalize fns l b = F at f1 f2
    obtain ⟨k, p, x, m, kl⟩ := F
    exact ⟨at_nice f1, f2, by show nodes (.mk k t0.pos x m kl) = _; simp only [nodes]⟩
  refine ⟨e1.1, e1.2.1, ?_, h4.2.2.2⟩
  rw [e1.2.2, f3]
  have := h1.1
  have := h2.2.2.1
  have := h3.1
  have := h4.2.2.1
  simp only [List.length_nil] at *
  omega
theorem if_nice {E : List Tk → R Tr} (hE : RE E) {ts : List Tk} {t0 : Tk} (h : ∃ r, ts = t0 :: r) (hk : TkOK ts) : Post (ifB z E ts) (QE ts.length) := by
  unfold ifB
  refine take_nice h hk fun ts1 h1 => post_bnd (hE ts1 h1.2) fun a ts2 h2 => post_bnd (post_need (by decide) h2.2.2.2) fun _ ts3 h3 => post_bnd (hE ts3 h3.2) fun b ts4 h4 => post_bnd (post_need (by decide) h4.2.2.2) fun _ ts5 h5 => post_bnd (hE ts5 h5.2) fun c ts6 h6 => post_ok ⟨?_, isEk (by decide), ?_, h6.2.2.2⟩
  · show Nice (.mk 11 t0.pos [] 0 [a, b, c])
    rw [Nice]
    refine ⟨by simp, ?_, by simp [NiceL, h2.1, h4.1, h6.1]⟩
    exact .inr (.inr (.inr (.inr (.inr (.inr (.inr (.inl ⟨rfl, a, b, c, rfl, h2.2.1, h4.2.1, h6.2.1⟩)))))))
  · show nodes (.mk 11 t0.pos [] 0 [a, b, c]) + 1 + 2 * ts6.length ≤ 2 * ts.length
    simp only [nodes, nodesL]
    have := h1.1
    have := h2.2.2.1
    have := h3.1
    have := h4.2.2.1
    have := h5.1
    have := h6.2.2.1
    omega
theorem cases_nice {E : List Tk → R Tr} (hE : RE E) {ts : List Tk} {t0 : Tk} (h : ∃ r, ts = t0 :: r) (hk : TkOK ts) : Post (casesB z E ts) (QE ts.length) := by
  unfold casesB
  refine take_nice h hk fun ts1 h1 => post_bnd (hE ts1 h1.2) fun e ts2 h2 => post_bnd (post_need (by decide) h2.2.2.2) fun _ ts3 h3 => post_bnd (post_need (by decide) h3.2) fun _ ts4 h4 => post_bnd (post_need (by decide) h4.2) fun _ ts5 h5 => post_bnd (post_need (by decide) h5.2) fun _ ts6 h6 => post_bnd (hE ts6 h6.2) fun a ts7 h7 => post_bnd (post_need (by decide) h7.2.2.2) fun _ ts8 h8 => post_bnd (post_named h8.2) fun x ts9 h9 => post_bnd (post_need (by decide) h9.2.2) fun _ ts10 h10 => post_bnd (post_named h10.2) fun y ts11 h11 => post_bnd (post_need (by decide) h11.2.2) fun _ ts12 h12 => post_bnd (hE ts12 h12.2) fun b ts13 h13 => post_bnd (post_need (by decide) h13.2.2.2) fun _ ts14 h14 => post_ok ⟨?_, isEk (by decide), ?_, h14.2⟩
  · show Nice (.mk 17 t0.pos [] 0 [e, a, x, y, b])
    rw [Nice]
    refine ⟨by simp, ?_, by simp [NiceL, h2.1, h7.1, h9.1.1, h11.1.1, h13.1]⟩
    exact .inr (.inr (.inr (.inr (.inr (.inr (.inr (.inr (.inl ⟨rfl, e, a, x, y, b, rfl, h2.2.1, h7.2.1, h13.2.1⟩))))))))
  · show nodes (.mk 17 t0.pos [] 0 [e, a, x, y, b]) + 1 + 2 * ts14.length ≤ 2 * ts.length
    simp only [nodes, nodesL, h9.1.2.1, h11.1.2.1]
    have := h1.1
    have := h2.2.2.1
    have := h3.1
    have := h4.1
    have := h5.1
    have := h6.1
    have := h7.2.2.1
    have := h8.1
    have := h9.2.1
    have := h10.1
    have := h11.2.1
    have := h12.1
    have := h13.2.2.1
    have := h14.1
    omega
theorem ret_nice {E : List Tk → R Tr} (hE : RE E) (ts : List Tk) (hk : TkOK ts) : Post (retB z E ts) (fun a ts' => Nice a ∧ a.kind = 21 ∧ nodes a + 2 * ts'.length ≤ 2 * ts.length ∧ TkOK ts') := by
  unfold retB
  refine post_look fun t _ => post_bnd (post_need (by decide) hk) fun _ ts1 h1 => post_bnd (post_name h1.2) fun x ts2 h2 => post_bnd (post_need (by decide) h2.2.2) fun _ ts3 h3 => post_bnd (hE ts3 h3.2) fun b ts4 h4 => post_ok ⟨nice1E (by omega) h2.1 h4.1 h4.2.1, rfl, ?_, h4.2.2.2⟩
  show nodes (.mk 21 t.pos x.text 0 [b]) + 2 * ts4.length ≤ 2 * ts.length
  rw [nodes1]
  have := h1.1
  have := h2.2.1
  have := h3.1
  have := h4.2.2.1
  omega
theorem clause_nice {E : List Tk → R Tr} (hE : RE E) (ts : List Tk) (hk : TkOK ts) : Post (clauseB z E ts) (fun a ts' => Nice a ∧ a.kind = 22 ∧ nodes a + 2 * ts'.length ≤ 2 * ts.length ∧ TkOK ts') := by
  unfold clauseB
  refine post_bnd (post_name hk) fun o ts1 h1 => post_bnd (post_named h1.2.2) fun y ts2 h2 => post_bnd (post_named h2.2.2) fun k ts3 h3 => post_bnd (post_need (by decide) h3.2.2) fun _ ts4 h4 => post_bnd (hE ts4 h4.2) fun c ts5 h5 => post_ok ⟨?_, rfl, ?_, h5.2.2.2⟩
  · show Nice (.mk 22 o.pos o.text 0 [y, k, c])
    rw [Nice]
    refine ⟨h1.1, ?_, by simp [NiceL, h2.1.1, h3.1.1, h5.1]⟩
    exact .inr (.inr (.inr (.inr (.inr (.inr (.inr (.inr (.inr (.inr (.inl ⟨rfl, y, k, c, rfl, h5.2.1⟩))))))))))
  · show nodes (.mk 22 o.pos o.text 0 [y, k, c]) + 2 * ts5.length ≤ 2 * ts.length
    simp only [nodes, nodesL, h2.1.2.1, h3.1.2.1]
    have := h1.2.1
    have := h2.2.1
    have := h3.2.1
    have := h4.1
    have := h5.2.2.1
    omega
theorem clauses_nice {E : List Tk → R Tr} (hE : RE E) : ∀ (n : Nat) (l : List Tr) (ts : List Tk), TkOK ts → Post (clausesB z E n l ts) (fun l' ts' => ∃ cs, l' = l ++ cs ∧ NiceL cs ∧ (∀ q ∈ cs, q.kind = 22) ∧ nodesL cs + 2 * ts'.length ≤ 2 * ts.length ∧ TkOK ts') := by
  intro n
  induction n with
  | zero => intro l ts _; exact post_look fun _ _ => post_err
  | succ n ih =>
    intro l ts hk
    rw [clausesB]
    refine post_ite (by decide) hk (fun ts1 h1 => post_bnd (clause_nice hE ts1 h1.2) fun c ts2 h2 => (ih _ ts2 h2.2.2.2).mono ?_) (post_ok ⟨[], by simp, by simp [NiceL], by simp, by simp [nodesL], hk⟩)
    rintro l' ts' ⟨cs, rfl, g1, g2, g3, g4⟩
    refine ⟨c :: cs, by simp, ?_, ?_, ?_, g4⟩
    · rw [NiceL]; exact ⟨h2.1, g1⟩
    · intro q hq
      rcases List.mem_cons.1 hq with rfl | hq
      · exact h2.2.1
      · exact g2 q hq
    · rw [nodesL]
      have := h1.1
      have := h2.2.2.1
      omega
theorem handle_nice {E : List Tk → R Tr} (hE : RE E) {ts : List Tk} {t0 : Tk} (h : ∃ r, ts = t0 :: r) (hk : TkOK ts) : Post (handleB z N E ts) (QE ts.length) := by
  unfold handleB
  refine take_nice h hk fun ts1 h1 => post_bnd (hE ts1 h1.2) fun e ts2 h2 => post_bnd (post_need (by decide) h2.2.2.2) fun _ ts3 h3 => post_bnd (post_need (by decide) h3.2) fun _ ts4 h4 => post_bnd (ret_nice hE ts4 h4.2) fun r ts5 h5 => post_bnd (clauses_nice hE N [e, r] ts5 h5.2.2.2) fun l ts6 h6 => ?_
  obtain ⟨cs, rfl, g1, g2, g3, g4⟩ := h6
  refine post_bnd (post_need (by decide) g4) fun _ ts7 h7 => post_ok ⟨?_, isEk (by decide), ?_, h7.2⟩
  · rw [Nice]
    refine ⟨by simp, ?_, by simp [NiceL, h2.1, h5.1, g1]⟩
    exact .inr (.inr (.inr (.inr (.inr (.inr (.inr (.inr (.inr (.inl ⟨rfl, e, r, cs, rfl, h2.2.1, h5.2.1, g2⟩)))))))))
  · simp only [nodes, nodesL, List.cons_append, List.nil_append]
    have := h1.1
    have := h2.2.2.1
    have := h3.1
    have := h4.1
    have := h5.2.2.1
    have := h7.1
    omega
theorem any_nice {E : List Tk → R Tr} (hE : RE E) : RE (anyB z N E) := by
  intro ts hk
  unfold anyB
  refine post_look fun t ht => post_if (fun e => let_nice hE (text_cons ht (by decide) e) hk) (fun _ => post_if (fun e => fn_nice hE (text_cons ht (by decide) e) hk) (fun _ => post_if (fun e => if_nice hE (text_cons ht (by decide) e) hk) (fun _ => post_if (fun e => cases_nice hE (text_cons ht (by decide) e) hk) (fun _ => post_if (fun e => ?_) (fun _ => seq_nice hE ts hk)))))
  rcases Bool.or_eq_true_iff.1 e with e | e
  · exact handle_nice hE (text_cons ht (by decide) e) hk
  · exact handle_nice hE (text_cons ht (by decide) e) hk
theorem expr_nice : ∀ n, RE (exprB z N n) := by
  intro n
  induction n with
  | zero => intro ts _; exact post_look fun _ _ => post_err
  | succ n ih =>
    intro ts hk
    rw [exprB]
    exact post_look fun _ _ => any_nice ih ts hk
end Go.Proofs.YtedppdcknkcbjaaGreatDoor

namespace Go.Proofs.YtedppdcknkcbjaaGreatDoor
open Sy Lx
variable {z : Env} {N : Nat}

theorem op_item {ts : List Tk} {t0 : Tk} (h : ∃ r, ts = t0 :: r) (hk : TkOK ts) : Post (opB z N ts) (fun a ts' => Nice a ∧ a.kind = 1 ∧ nodes a + 2 * ts'.length ≤ 2 * ts.length ∧ TkOK ts') := by
  unfold opB
  have fin : ∀ (m : Int) (ts1 : List Tk), ts1.length + 1 ≤ ts.length → TkOK ts1 → Post (bnd (kindB z 2 ts1) fun x ts => bnd (needB z s_colon ts) fun _ ts => bnd (typB z N 200 ts) fun a ts => bnd (needB z s_to ts) fun _ ts => bnd (typB z N 200 ts) fun b ts => .ok (Tr.mk 1 t0.pos x.text m [a, b], ts)) (fun a ts' => Nice a ∧ a.kind = 1 ∧ nodes a + 2 * ts'.length ≤ 2 * ts.length ∧ TkOK ts') := by
    intro m ts1 hl h1
    refine post_bnd (post_name h1) fun x ts2 h2 => post_bnd (post_need (by decide) h2.2.2) fun _ ts3 h3 => post_bnd (typ_nice 200 ts3 h3.2) fun a ts4 h4 => post_bnd (post_need (by decide) h4.2.2.2) fun _ ts5 h5 => post_bnd (typ_nice 200 ts5 h5.2) fun b ts6 h6 => post_ok ⟨?_, rfl, ?_, h6.2.2.2⟩
    · rw [Nice]
      exact ⟨h2.1, .inr (.inr (.inr (.inr (.inr (.inl ⟨.inl rfl, a, b, rfl, h4.2.1, h6.2.1⟩))))), by simp [NiceL, h4.1, h6.1]⟩
    · rw [nodes2]
      have := h2.2.1
      have := h3.1
      have := h4.2.2.1
      have := h5.1
      have := h6.2.2.1
      omega
  refine take_nice h hk fun ts1 h1 => post_ite (by decide) h1.2 (fun ts2 h2 => fin 1 ts2 (by have := h1.1; have := h2.1; omega) h2.2) (post_bnd (post_need (by decide) h1.2) fun _ ts2 h2 => fin 0 ts2 (by have := h1.1; have := h2.1; omega) h2.2)
theorem ops_nice : ∀ (n : Nat) (l : List Tr) (ts : List Tk), TkOK ts → Post (opsB z N n l ts) (fun l' ts' => ∃ os, l' = l ++ os ∧ NiceL os ∧ (∀ q ∈ os, q.kind = 1) ∧ nodesL os + 2 * ts'.length ≤ 2 * ts.length ∧ TkOK ts') := by
  intro n
  induction n with
  | zero => intro l ts _; exact post_look fun _ _ => post_err
  | succ n ih =>
    intro l ts hk
    rw [opsB]
    refine post_look fun t ht => post_if (fun e => post_bnd (op_item (text_cons ht (by decide) e) hk) fun c ts2 h2 => (ih _ ts2 h2.2.2.2).mono ?_) (fun _ => post_ok ⟨[], by simp, by simp [NiceL], by simp, by simp [nodesL], hk⟩)
    rintro l' ts' ⟨cs, rfl, g1, g2, g3, g4⟩
    refine ⟨c :: cs, by simp, ?_, ?_, ?_, g4⟩
    · rw [NiceL]; exact ⟨h2.1, g1⟩
    · intro q hq
      rcases List.mem_cons.1 hq with rfl | hq
      · exact h2.2.1
      · exact g2 q hq
    · rw [nodesL]
      have := h2.2.2.1
      omega
theorem def_item {ts : List Tk} {t0 : Tk} (h : ∃ r, ts = t0 :: r) (hk : TkOK ts) : Post (defB z N ts) (fun a ts' => Nice a ∧ a.kind = 2 ∧ nodes a + 2 * ts'.length ≤ 2 * ts.length ∧ TkOK ts') := by
  unfold defB
  refine take_nice h hk fun ts1 h1 => post_bnd (bind_nice (expr_nice 200) 1 ts1 h1.2) fun d ts2 h2 => post_ok ?_
  obtain ⟨d1, d2, d3, d4, d5, d6, d7⟩ := h2
  refine ⟨?_, rfl, ?_, d7⟩
  · rw [Nice]
    exact ⟨d2, .inr (.inr (.inr (.inr (.inr (.inr (.inr (.inr (.inr (.inr (.inr (.inr (.inl ⟨rfl, d.2.2, rfl, d5 (.inr (by omega))⟩)))))))))))), by simp [NiceL, d3]⟩
  · rw [nodes1]
    have := h1.1
    omega
theorem defs_nice : ∀ (n : Nat) (l : List Tr) (ts : List Tk), TkOK ts → Post (defsB z N n l ts) (fun l' ts' => ∃ os, l' = l ++ os ∧ NiceL os ∧ (∀ q ∈ os, q.kind = 2) ∧ nodesL os + 2 * ts'.length ≤ 2 * ts.length ∧ TkOK ts') := by
  intro n
  induction n with
  | zero => intro l ts _; exact post_look fun _ _ => post_err
  | succ n ih =>
    intro l ts hk
    rw [defsB]
    refine post_look fun t ht => post_if (fun e => post_bnd (def_item (text_cons ht (by decide) e) hk) fun c ts2 h2 => (ih _ ts2 h2.2.2.2).mono ?_) (fun _ => post_ok ⟨[], by simp, by simp [NiceL], by simp, by simp [nodesL], hk⟩)
    rintro l' ts' ⟨cs, rfl, g1, g2, g3, g4⟩
    refine ⟨c :: cs, by simp, ?_, ?_, ?_, g4⟩
    · rw [NiceL]; exact ⟨h2.1, g1⟩
    · intro q hq
      rcases List.mem_cons.1 hq with rfl | hq
      · exact h2.2.1
      · exact g2 q hq
    · rw [nodesL]
      have := h2.2.2.1
      omega
theorem prog_nice (ts : List Tk) (hk : TkOK ts) : Post (progB z N ts) (fun a _ => Nice a ∧ a.kind = 0 ∧ nodes a ≤ 2 * ts.length) := by
  unfold progB
  refine post_bnd (ops_nice N [] ts hk) fun o ts1 h1 => ?_
  obtain ⟨os, rfl, g1, g2, g3, g4⟩ := h1
  refine post_bnd (defs_nice N _ ts1 g4) fun d ts2 h2 => ?_
  obtain ⟨ds, rfl, k1, k2, k3, k4⟩ := h2
  refine post_bnd (post_need (by decide) k4) fun _ ts3 h3 => post_bnd (post_need (by decide) h3.2) fun _ ts4 h4 => post_bnd (expr_nice 200 ts4 h4.2) fun e ts5 h5 => post_bnd (Q := fun _ _ => True) (fun _ _ _ => trivial) fun _ ts6 _ => post_ok ⟨?_, rfl, ?_⟩
  · rw [Nice]
    refine ⟨by simp, ?_, ?_⟩
    · exact .inr (.inr (.inr (.inr (.inr (.inr (.inr (.inr (.inr (.inr (.inr (.inr (.inr ⟨rfl, _, ds, e, rfl, rfl, g2, k2, h5.2.1⟩))))))))))))
    · rw [niceL_append, niceL_append]
      exact ⟨⟨g1, k1⟩, by simp [NiceL, h5.1]⟩
  · simp only [nodes, nodesL_append, nodesL]
    have := h3.1
    have := h4.1
    have := h5.2.2.1
    omega
end Go.Proofs.YtedppdcknkcbjaaGreatDoor

namespace Go.Proofs.YtedppdcknkcbjaaGreatDoor
open Sy Lx

def TokOne (t : Tk) : Prop := Sy.Gd t ∧ (t.kind = 2 → t.text.length ≤ 20) ∧ (t.kind = 1 → t.num ≤ 9223372036854775807)
theorem tok_one (pos : Nat) (c : UInt8) (r : List UInt8) (t : Tk) (n : Nat) (h : tokAt pos (c :: r) = .ok (t, n)) : TokOne t := by
  by_cases hd : isDig c = true
  · rw [tokAt_dig pos c r hd] at h
    split at h
    · rename_i ho
      simp only [Except.ok.injEq, Prod.mk.injEq] at h
      obtain ⟨rfl, _⟩ := h
      refine ⟨.inl ⟨rfl, rfl⟩, fun e => (by simp at e), fun _ => ?_⟩
      simp only [okNum, Bool.and_eq_true, decide_eq_true_eq] at ho
      exact ho.2
    · cases h
  · have hd' : isDig c = false := by simpa using hd
    by_cases hl : isLet c = true
    · rw [tokAt_let pos c r hd' hl] at h
      split at h
      · rename_i ho
        simp only [Except.ok.injEq, Prod.mk.injEq] at h
        obtain ⟨rfl, _⟩ := h
        have hn : isNm c = true := by simp [isNm, hl]
        have ht : (c :: r).takeWhile isNm = c :: r.takeWhile isNm := by simp [hn]
        by_cases hw : isWd ((c :: r).takeWhile isNm) = true
        · simp only [hw, if_true]
          exact ⟨.inr (.inr (.inl rfl)), fun e => (by simp at e), fun e => (by simp at e)⟩
        · have hw' : isWd ((c :: r).takeWhile isNm) = false := by simpa using hw
          simp only [hw', Bool.false_eq_true, if_false]
          exact ⟨.inr (.inl ⟨rfl, ⟨c, _, ht, hl⟩, hw'⟩), fun _ => ho, fun e => (by simp at e)⟩
      · cases h
    · have hl' : isLet c = false := by simpa using hl
      by_cases hs : isSg c = true
      · rw [tokAt_sg pos c r hd' hl' hs] at h
        simp only [Except.ok.injEq, Prod.mk.injEq] at h
        obtain ⟨rfl, _⟩ := h
        exact ⟨.inr (.inr (.inr rfl)), fun e => (by simp at e), fun e => (by simp at e)⟩
      · have hs' : isSg c = false := by simpa using hs
        rw [tokAt_no pos c r hd' hl' hs'] at h
        cases h
theorem toks_one : ∀ (f pos : Nat) (l : List UInt8), ∀ t ∈ (toksF f pos l).1, TokOne t := by
  intro f
  induction f with
  | zero => intro pos l t ht; simp [toksF] at ht
  | succ f ih =>
    intro pos l t ht
    cases l with
    | nil => simp [toksF] at ht
    | cons c r =>
      simp only [toksF] at ht
      split at ht
      · exact ih _ _ t ht
      · split at ht
        · exact ih _ _ t ht
        · cases hk : tokAt pos (c :: r) with
          | error e => rw [hk] at ht; simp at ht
          | ok v =>
            obtain ⟨t1, n⟩ := v
            rw [hk] at ht
            simp only [tcons, List.mem_cons] at ht
            rcases ht with rfl | ht
            · exact tok_one pos c r _ n hk
            · exact ih _ _ t ht
theorem tree_nice {z : Env} {N : Nat} (hN : N ≠ 0) (ts : List Tk) (hk : ∀ t ∈ ts, TokOne t) (h : (parseA z N ⟨zTk, ts, (0, 0)⟩).2.1 = 0) :
    Nice (parseA z N ⟨zTk, ts, (0, 0)⟩).1 ∧ (parseA z N ⟨zTk, ts, (0, 0)⟩).1.kind = 0 ∧ nodes (parseA z N ⟨zTk, ts, (0, 0)⟩).1 ≤ 2 * ts.length := by
  have hfit : Fit z (nextA z ⟨zTk, ts, (0, 0)⟩) ts := by
    cases ts with
    | nil =>
      by_cases hz : z.fin.1 = 0
      · simp [Fit, nextA, okA, hz]
      · simp [Fit, nextA, okA, hz]
    | cons t r => simp [Fit, nextA, okA]
  have hs := parse_same (z := z) hN ⟨zTk, ts, (0, 0)⟩ ts (fun t ht => (hk t ht).1) hfit
  have hne : (parseA z N ⟨zTk, ts, (0, 0)⟩).1 ≠ zT := by
    obtain ⟨u, hu⟩ : ∃ u : RS, parseA z N ⟨zTk, ts, (0, 0)⟩ = if okA u then ((progA z N (nextA z ⟨zTk, ts, (0, 0)⟩)).1, (0, 0)) else (zT, u.f) := ⟨_, rfl⟩
    rw [hu] at h ⊢
    by_cases ho : okA u = true
    · rw [if_pos ho]
      intro e
      have := congrArg Tr.kids e
      simp [progA, Tr.kids, zT] at this
    · rw [if_neg ho] at h
      exact absurd (by simpa [okA] using h) ho
  rw [hs] at hne ⊢
  have hk2 : TkOK ts := fun t ht => (hk t ht).2
  unfold parseB at hne ⊢
  cases hp : progB z N ts with
  | error e => rw [hp] at hne; exact absurd rfl hne
  | ok v =>
    obtain ⟨a, ts'⟩ := v
    exact prog_nice ts hk2 a ts' hp
end Go.Proofs.YtedppdcknkcbjaaGreatDoor
