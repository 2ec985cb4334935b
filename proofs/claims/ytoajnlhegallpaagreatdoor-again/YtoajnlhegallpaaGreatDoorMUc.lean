/-
  What a reader reads is a tree that may have been read: types.
  What a reader reads is a tree that may have been read: expressions and programs.
  What a reader reads is a tree that may have been read: programs.
-/
import Derived.Test.YtoajnlhegallpaaGreatDoorMBa
set_option linter.unusedVariables false
set_option linter.unusedSimpArgs false
namespace Go.Proofs.YtoajnlhegallpaaGreatDoor
open Sy Lx

def Post {α : Type} (x : R α) (Q : α → List Tk → Prop) : Prop := (∀ a ts, x = .ok (a, ts) → Q a ts) ∧ ∀ e, x = .error e → e.1 ≠ 0
theorem post_bnd {α β : Type} {x : R α} {f : α → List Tk → R β} {Q : α → List Tk → Prop} {P : β → List Tk → Prop} (h : Post x Q) (hf : ∀ a ts, Q a ts → Post (f a ts) P) : Post (bnd x f) P := by
 cases x with
 | error e => exact ⟨fun b ts hb => by simp [bnd] at hb, fun e' he => h.2 e' (by simpa [bnd] using he)⟩
 | ok v => obtain ⟨a, ts1⟩ := v; exact hf a ts1 (h.1 a ts1 rfl)
theorem post_ok {α : Type} {a : α} {ts : List Tk} {Q : α → List Tk → Prop} (h : Q a ts) : Post (.ok (a, ts)) Q := by
 refine ⟨fun b ts' hb => ?_, fun e he => (by cases he)⟩
 simp only [Except.ok.injEq, Prod.mk.injEq] at hb
 obtain ⟨rfl, rfl⟩ := hb
 exact h
theorem post_err {α : Type} {e : Nat × Nat} {Q : α → List Tk → Prop} (h : e.1 ≠ 0 := by simp) : Post (.error e : R α) Q := by
 refine ⟨fun b ts' hb => (by cases hb), fun e' he => ?_⟩
 cases he
 exact h
theorem post_if {α : Type} {c : Prop} [Decidable c] {x y : R α} {Q : α → List Tk → Prop} (hx : c → Post x Q) (hy : ¬ c → Post y Q) : Post (if c then x else y) Q := by
 split
 ·exact hx ‹_›
 ·exact hy ‹_›
theorem Post.mono {α : Type} {x : R α} {P Q : α → List Tk → Prop} (h : Post x P) (hq : ∀ a ts, P a ts → Q a ts) : Post x Q := ⟨fun a ts e => hq a ts (h.1 a ts e), h.2⟩
def TkOK (ts : List Tk) : Prop := ∀ t ∈ ts, (t.kind = 2 → t.text.length ≤ 20) ∧ (t.kind = 1 → t.num ≤ 9223372036854775807)
theorem TkOK.tail {ts : List Tk} (h : TkOK ts) : TkOK ts.tail := fun t ht => h t (List.mem_of_mem_tail ht)
variable {z : Env} {N : Nat}
theorem post_look {α : Type} {ts : List Tk} {f : Tk → List Tk → R α} {Q : α → List Tk → Prop} (h : ∀ t, (ts = [] ∧ t = endTk z ∨ ∃ r, ts = t :: r) → Post (f t ts) Q) : Post (bnd (lookB z ts) f) Q := by
 unfold lookB
 cases ts with
 | nil =>
  dsimp only
  split
  ·exact h _ (.inl ⟨rfl, rfl⟩)
  ·rename_i hz; exact post_err hz
 | cons t r => exact h t (.inr ⟨r, rfl⟩)
theorem text_cons {ts : List Tk} {t : Tk} (h : ts = [] ∧ t = endTk z ∨ ∃ r, ts = t :: r) {x : List UInt8} (hx : x ≠ []) (e : (t.text == x) = true) : ∃ r, ts = t :: r := by
 rcases h with ⟨_, rfl⟩ | h
 ·have : [] = x := by simpa [endTk] using e
  exact absurd this.symm hx
 ·exact h
theorem kind_cons {ts : List Tk} {t : Tk} (h : ts = [] ∧ t = endTk z ∨ ∃ r, ts = t :: r) {k : Nat} (hk : k ≠ 0) (e : (t.kind == k) = true) : ∃ r, ts = t :: r := by
 rcases h with ⟨_, rfl⟩ | h
 ·have : 0 = k := by simpa [endTk] using e
  exact absurd this.symm hk
 ·exact h
theorem post_kind {k : Nat} {ts : List Tk} : Post (kindB z k ts) (fun _ _ => True) := by
 unfold kindB
 exact post_look fun t _ => post_if (fun _ => post_ok trivial) (fun _ => post_err)
def One (n : Nat) (ts : List Tk) : Prop := ts.length + 1 = n ∧ TkOK ts
theorem one_tail {ts : List Tk} {t : Tk} (h : ∃ r, ts = t :: r) (hk : TkOK ts) : One ts.length ts.tail := by
 obtain ⟨r, rfl⟩ := h
 exact ⟨rfl, hk.tail⟩
theorem post_ite {α : Type} {x : List UInt8} {ts : List Tk} {yes no : List Tk → R α} {Q : α → List Tk → Prop} (hx : x ≠ []) (hk : TkOK ts) (hy : ∀ ts', One ts.length ts' → Post (yes ts') Q) (hn : Post (no ts) Q) : Post (iteB z x ts yes no) Q := by
 unfold iteB
 refine post_look fun t ht => post_if (fun e => hy _ (one_tail (text_cons ht hx e) hk)) (fun _ => hn)
theorem post_need {x : List UInt8} {ts : List Tk} (hx : x ≠ []) (hk : TkOK ts) : Post (needB z x ts) (fun _ ts' => One ts.length ts') := by
 unfold needB
 refine post_look fun t ht => post_if (fun e => post_ok (one_tail (text_cons ht hx e) hk)) (fun _ => post_err)
theorem post_name {ts : List Tk} (hk : TkOK ts) : Post (kindB z 2 ts) (fun t ts' => t.text.length ≤ 20 ∧ One ts.length ts') := by
 unfold kindB
 refine post_look fun t ht => post_if (fun e => ?_) (fun _ => post_err)
 have hc := kind_cons ht (by decide) e
 refine post_ok ⟨?_, one_tail hc hk⟩
 obtain ⟨r, hr⟩ := hc
 exact (hk t (by rw [hr]; simp)).1 (by simpa using e)
theorem post_num {ts : List Tk} (hk : TkOK ts) : Post (kindB z 1 ts) (fun t ts' => t.num ≤ 9223372036854775807 ∧ One ts.length ts') := by
 unfold kindB
 refine post_look fun t ht => post_if (fun e => ?_) (fun _ => post_err)
 have hc := kind_cons ht (by decide) e
 refine post_ok ⟨?_, one_tail hc hk⟩
 obtain ⟨r, hr⟩ := hc
 exact (hk t (by rw [hr]; simp)).2 (by simpa using e)
theorem nice_leaf {k p : Nat} {x : List UInt8} {m : Int} (hk : k = 4 ∨ k = 5 ∨ k = 6 ∨ k = 15 ∨ k = 23 ∨ k = 24 ∨ k = 25 ∨ k = 26) (hx : x.length ≤ 20) : Nice (.mk k p x m []) ∧ nodes (.mk k p x m []) = 1 := by
 refine ⟨?_, by simp [nodes, nodesL]⟩
 rw [Nice]
 exact ⟨hx, .inl ⟨hk, rfl⟩, by simp [NiceL]⟩
theorem post_named {ts : List Tk} (hk : TkOK ts) : Post (namedB z ts) (fun a ts' => (Nice a ∧ nodes a = 1 ∧ a.kind = 23) ∧ One ts.length ts') := by
 unfold namedB
 refine post_bnd (post_name hk) fun t ts' h => post_ok ⟨?_, h.2⟩
 have := nice_leaf (k := 23) (p := t.pos) (x := t.text) (m := 0) (by omega) h.1
 exact ⟨this.1, this.2, rfl⟩
def QE (n : Nat) (a : Tr) (ts : List Tk) : Prop := Nice a ∧ isE a ∧ nodes a + 1 + 2 * ts.length ≤ 2 * n ∧ TkOK ts
def QT (n : Nat) (a : Tr) (ts : List Tk) : Prop := Nice a ∧ isT a ∧ nodes a + 1 + 2 * ts.length ≤ 2 * n ∧ TkOK ts
def RE (F : List Tk → R Tr) : Prop := ∀ ts, TkOK ts → Post (F ts) (QE ts.length)
def RT (F : List Tk → R Tr) : Prop := ∀ ts, TkOK ts → Post (F ts) (QT ts.length)

theorem isTk {k p : Nat} {x : List UInt8} {m : Int} {l : List Tr} (h : 24 ≤ k ∧ k ≤ 29) : isT (.mk k p x m l) := h
theorem isEk {k p : Nat} {x : List UInt8} {m : Int} {l : List Tr} (h : 3 ≤ k ∧ k ≤ 20) : isE (.mk k p x m l) := h

/- types -/
theorem row_nice : ∀ (n : Nat) (l : List Tr) (ts : List Tk), TkOK ts → Post (rowB z n l ts) (fun l' ts' => ∃ ns, l' = l ++ ns ∧ NiceL ns ∧ (∀ q ∈ ns, q.kind = 23) ∧ nodesL ns + ts'.length ≤ ts.length ∧ TkOK ts') := by
 intro n
 induction n with
 | zero => intro l ts _; exact post_look fun _ _ => post_err
 | succ n ih =>
  intro l ts hk
  rw [rowB]
  refine post_bnd (post_named hk) fun x ts1 h1 => post_ite (by decide) h1.2.2 (fun ts2 h2 => (ih _ ts2 h2.2).mono ?_) (post_ok ?_)
  ·rintro l' ts' ⟨ns, rfl, g1, g2, g3, g4⟩
   refine ⟨x :: ns, by simp, ?_, ?_, ?_, g4⟩
   ·rw [NiceL]; exact ⟨h1.1.1, g1⟩
   ·intro q hq
    rcases List.mem_cons.1 hq with rfl | hq
    ·exact h1.1.2.2
    ·exact g2 q hq
   ·rw [nodesL, h1.1.2.1]
    have := h1.2.1
    have := h2.1
    omega
  ·refine ⟨[x], rfl, ?_, ?_, ?_, h1.2.2⟩
   ·simp [NiceL, h1.1.1]
   ·intro q hq
    rw [List.mem_singleton.1 hq]
    exact h1.1.2.2
   ·simp only [nodesL, h1.1.2.1]
    have := h1.2.1
    omega
theorem lists_nice : ∀ (n : Nat) (a : Tr) (ts : List Tk) (k : Nat), QT k a ts → Post (listsB z n a ts) (QT k) := by
 intro n
 induction n with
 | zero => intro a ts k _; exact post_look fun _ _ => post_err
 | succ n ih =>
  intro a ts k h
  rw [listsB]
  refine post_ite (by decide) h.2.2.2 (fun ts1 h1 => ih _ ts1 k ⟨?_, isTk (by decide), ?_, h1.2⟩) (post_ok h)
  ·show Nice (.mk 27 a.pos [] 0 [a])
   rw [Nice]
   exact ⟨by simp, .inr (.inr (.inr (.inl ⟨rfl, a, rfl, h.2.1⟩))), by simp [NiceL, h.1]⟩
  ·show nodes (.mk 27 a.pos [] 0 [a]) + 1 + 2 * ts1.length ≤ 2 * k
   simp only [nodes, nodesL]
   have := h.2.2.1
   have := h1.1
   omega
theorem nd_leafT (k p : Nat) (hk : k = 24 ∨ k = 25 ∨ k = 26) : Nice (nd k p []) ∧ nodes (nd k p []) = 1 ∧ isT (nd k p []) :=
 ⟨(nice_leaf (by omega) (by simp)).1, (nice_leaf (x := []) (m := 0) (p := p) (by omega : k = 4 ∨ k = 5 ∨ k = 6 ∨ k = 15 ∨ k = 23 ∨ k = 24 ∨ k = 25 ∨ k = 26) (by simp)).2, by show 24 ≤ k; omega, by show k ≤ 29; omega⟩
theorem tatom_nice {T : List Tk → R Tr} (hT : RT T) : RT (tatomB z T) := by
 intro ts hk
 unfold tatomB
 refine post_look fun t ht => post_if (fun e => ?_) (fun _ => post_if (fun e => ?_) (fun _ => post_if (fun e => ?_) (fun _ => post_if (fun e => ?_) (fun _ => post_err))))
 ·have h0 := one_tail (text_cons ht (by decide) e) hk
  refine post_bnd (hT _ h0.2) fun a ts1 h1 => post_bnd (post_need (by decide) h1.2.2.2) fun _ ts2 h2 => post_ok ⟨h1.1, h1.2.1, ?_, h2.2⟩
  have := h1.2.2.1
  have := h0.1
  have := h2.1
  omega
 all_goals
  have h0 := one_tail (text_cons ht (by decide) e) hk
  refine post_ok ⟨(nd_leafT _ _ (by omega)).1, (nd_leafT _ _ (by omega)).2.2, ?_, h0.2⟩
  rw [(nd_leafT _ _ (by omega)).2.1]
  have := h0.1
  omega
theorem some_nice {T : List Tk → R Tr} (hT : RT T) : RT (someB z N T) := by
 intro ts hk
 unfold someB
 exact post_bnd (tatom_nice hT ts hk) fun a ts1 h1 => lists_nice N a ts1 ts.length h1
theorem nice2T {k p : Nat} {a b : Tr} (hk : k = 28) (ha : Nice a ∧ isT a) (hb : Nice b ∧ isT b) : Nice (nd k p [a, b]) := by
 subst hk
 show Nice (.mk 28 p [] 0 [a, b])
 rw [Nice]
 exact ⟨by simp, .inr (.inr (.inr (.inr (.inr (.inl ⟨.inr rfl, a, b, rfl, ha.2, hb.2⟩))))), by simp [NiceL, ha.1, hb.1]⟩
theorem pair_nice {T : List Tk → R Tr} (hT : RT T) : ∀ n, RT (pairB z N T n) := by
 intro n
 induction n with
 | zero => intro ts _; exact post_look fun _ _ => post_err
 | succ n ih =>
  intro ts hk
  rw [pairB]
  refine post_bnd (some_nice hT ts hk) fun a ts1 h1 => post_ite (by decide) h1.2.2.2 (fun ts2 h2 => post_bnd (ih ts2 h2.2) fun b ts3 h3 => post_ok ⟨nice2T rfl ⟨h1.1, h1.2.1⟩ ⟨h3.1, h3.2.1⟩, isTk (by decide), ?_, h3.2.2.2⟩) (post_ok h1)
  show nodes (.mk 28 a.pos [] 0 [a, b]) + 1 + 2 * ts3.length ≤ 2 * ts.length
  simp only [nodes, nodesL]
  have := h1.2.2.1
  have := h2.1
  have := h3.2.2.1
  omega
theorem nice29 {p : Nat} {a b : Tr} {ns : List Tr} (ha : Nice a ∧ isT a) (hb : Nice b ∧ isT b) (hn : NiceL ns) (hq : ∀ q ∈ ns, q.kind = 23) : Nice (nd 29 p ([a, b] ++ ns)) := by
 show Nice (.mk 29 p [] 0 ([a, b] ++ ns))
 rw [Nice]
 refine ⟨by simp, ?_, by simp [NiceL, ha.1, hb.1, hn]⟩
 exact .inr (.inr (.inr (.inr (.inr (.inr (.inr (.inr (.inr (.inr (.inr (.inl ⟨rfl, a, b, ns, rfl, ha.2, hb.2, hq⟩)))))))))))
theorem typBody_nice {T : List Tk → R Tr} (hT : RT T) : RT (typBodyB z N T) := by
 intro ts hk
 unfold typBodyB
 refine post_bnd (pair_nice hT N ts hk) fun a ts1 h1 => post_ite (by decide) h1.2.2.2 (fun ts2 h2 => ?_) (post_ite (by decide) h1.2.2.2 (fun ts2 h2 => ?_) (post_ok h1))
 ·refine post_bnd (post_need (by decide) h2.2) fun _ ts3 h3 => post_bnd (row_nice N [] ts3 h3.2) fun l ts4 h4 => ?_
  obtain ⟨ns, rfl, g1, g2, g3, g4⟩ := h4
  refine post_bnd (post_need (by decide) g4) fun _ ts5 h5 => post_bnd (post_need (by decide) h5.2) fun _ ts6 h6 => post_bnd (hT ts6 h6.2) fun b ts7 h7 => post_ok ⟨?_, isTk (by decide), ?_, h7.2.2.2⟩
  ·exact nice29 ⟨h1.1, h1.2.1⟩ ⟨h7.1, h7.2.1⟩ g1 g2
  ·show nodes (.mk 29 a.pos [] 0 ([a, b] ++ l)) + 1 + 2 * ts7.length ≤ 2 * ts.length
   simp only [nodes, nodesL, List.nil_append, List.cons_append]
   have := h1.2.2.1
   have := h2.1
   have := h3.1
   have := h5.1
   have := h6.1
   have := h7.2.2.1
   omega
 ·refine post_bnd (hT ts2 h2.2) fun b ts3 h3 => post_ok ⟨?_, isTk (by decide), ?_, h3.2.2.2⟩
  ·exact nice29 (ns := []) ⟨h1.1, h1.2.1⟩ ⟨h3.1, h3.2.1⟩ (by simp [NiceL]) (by simp)
  ·show nodes (.mk 29 a.pos [] 0 [a, b]) + 1 + 2 * ts3.length ≤ 2 * ts.length
   simp only [nodes, nodesL]
   have := h1.2.2.1
   have := h2.1
   have := h3.2.2.1
   omega
theorem typ_nice : ∀ n, RT (typB z N n) := by
 intro n
 induction n with
 | zero => intro ts _; exact post_look fun _ _ => post_err
 | succ n ih =>
  intro ts hk
  rw [typB]
  exact post_look fun _ _ => typBody_nice ih ts hk

open Sy Lx
variable {z : Env} {N : Nat}

theorem nice1E {k p : Nat} {x : List UInt8} {m : Int} {a : Tr} (hk : k = 7 ∨ k = 13 ∨ k = 14 ∨ k = 19 ∨ k = 21) (hx : x.length ≤ 20) (ha : Nice a) (he : isE a) : Nice (.mk k p x m [a]) := by
 rw [Nice]
 exact ⟨hx, .inr (.inr (.inl ⟨hk, a, rfl, he⟩)), by simp [NiceL, ha]⟩
theorem nice2E {k p : Nat} {x : List UInt8} {m : Int} {a b : Tr} (hk : k = 8 ∨ (k = 9 ∧ m ≠ 1) ∨ k = 10 ∨ k = 12 ∨ k = 16 ∨ (k = 18 ∧ fiveS x)) (hx : x.length ≤ 20) (ha : Nice a) (hea : isE a) (hb : Nice b) (heb : isE b) : Nice (.mk k p x m [a, b]) := by
 rw [Nice]
 exact ⟨hx, .inr (.inr (.inr (.inr (.inl ⟨hk, a, b, rfl, hea, heb⟩)))), by simp [NiceL, ha, hb]⟩
theorem nodes1 {k p : Nat} {x : List UInt8} {m : Int} {a : Tr} : nodes (.mk k p x m [a]) = nodes a + 1 := by simp only [nodes, nodesL]; omega
theorem nodes2 {k p : Nat} {x : List UInt8} {m : Int} {a b : Tr} : nodes (.mk k p x m [a, b]) = nodes a + nodes b + 1 := by simp only [nodes, nodesL]; omega
theorem niceLeafE {k p : Nat} {x : List UInt8} {m : Int} (hk : k = 4 ∨ k = 5 ∨ k = 6 ∨ k = 15) (hx : x.length ≤ 20) : Nice (.mk k p x m []) ∧ nodes (.mk k p x m []) = 1 ∧ isE (.mk k p x m []) :=
 ⟨(nice_leaf (by omega) hx).1, (nice_leaf (by omega) hx).2, isEk (by omega)⟩
theorem niceInt {p : Nat} {m : Int} (h : -9223372036854775807 ≤ m ∧ m ≤ 9223372036854775807) : Nice (.mk 3 p [] m []) ∧ nodes (.mk 3 p [] m []) = 1 := by
 refine ⟨?_, by simp [nodes, nodesL]⟩
 rw [Nice]
 exact ⟨by simp, .inr (.inl ⟨rfl, rfl, h⟩), by simp [NiceL]⟩

theorem squares_nice {E : List Tk → R Tr} (hE : RE E) : ∀ (n : Nat) (l : List Tr) (ts : List Tk), TkOK ts →
  Post (squaresB z E n l ts) (fun l' ts' => ∃ ns, l' = l ++ ns ∧ ns ≠ [] ∧ NiceL ns ∧ (∀ q ∈ ns, isE q) ∧ nodesL ns + ns.length + 2 * ts'.length + 2 * (ns.length - 1) ≤ 2 * ts.length ∧ TkOK ts') := by
 intro n
 induction n with
 | zero => intro l ts _; exact post_look fun _ _ => post_err
 | succ n ih =>
  intro l ts hk
  rw [squaresB]
  refine post_bnd (hE ts hk) fun a ts1 h1 => post_ite (by decide) h1.2.2.2 (fun ts2 h2 => (ih _ ts2 h2.2).mono ?_) (post_ok ?_)
  ·rintro l' ts' ⟨ns, rfl, g0, g1, g2, g3, g4⟩
   refine ⟨a :: ns, by simp, by simp, ?_, ?_, ?_, g4⟩
   ·rw [NiceL]; exact ⟨h1.1, g1⟩
   ·intro q hq
    rcases List.mem_cons.1 hq with rfl | hq
    ·exact h1.2.1
    ·exact g2 q hq
   ·have h3 : 1 ≤ ns.length := List.length_pos_iff.2 g0
    simp only [nodesL, List.length_cons]
    have := h1.2.2.1
    have := h2.1
    omega
  ·refine ⟨[a], rfl, by simp, by simp [NiceL, h1.1], ?_, ?_, h1.2.2.2⟩
   ·intro q hq
    rw [List.mem_singleton.1 hq]
    exact h1.2.1
   ·simp only [nodesL, List.length_cons, List.length_nil]
    have := h1.2.2.1
    omega
theorem consUp_nice (p : Nat) : ∀ (l : List Tr), NiceL l → (∀ q ∈ l, isE q) → Nice (consUp l (nd 15 p [])) ∧ isE (consUp l (nd 15 p [])) ∧ nodes (consUp l (nd 15 p [])) = nodesL l + l.length + 1 := by
 intro l
 induction l with
 | nil =>
  intro _ _
  have := niceLeafE (k := 15) (p := p) (x := []) (m := 0) (by omega) (by simp)
  exact ⟨this.1, this.2.2, by simp only [nodesL, List.length_nil]; exact this.2.1⟩
 | cons a l ih =>
  intro h1 h2
  rw [NiceL] at h1
  obtain ⟨i1, i2, i3⟩ := ih h1.2 (fun q hq => h2 q (by simp [hq]))
  have e : consUp (a :: l) (nd 15 p []) = .mk 16 a.pos [] 0 [a, consUp l (nd 15 p [])] := rfl
  rw [e]
  refine ⟨nice2E (by omega) (by simp) h1.1 (h2 a (by simp)) i1 i2, isEk (by decide), ?_⟩
  rw [nodes2, i3]
  simp only [nodesL, List.length_cons]
  omega
theorem square_nice {E : List Tk → R Tr} (hE : RE E) (p : Nat) : ∀ ts n, One n ts → Post (squareB z N E p ts) (QE n) := by
 intro ts n h0
 unfold squareB
 refine post_ite (by decide) h0.2 (fun ts1 h1 => post_ok ?_) ?_
 ·have := niceLeafE (k := 15) (p := p) (x := []) (m := 0) (by omega) (by simp)
  refine ⟨this.1, this.2.2, ?_, h1.2⟩
  have e := this.2.1
  show nodes (.mk 15 p [] 0 []) + 1 + 2 * ts1.length ≤ 2 * n
  have := h0.1
  have := h1.1
  omega
 ·refine post_bnd (squares_nice hE N [] ts h0.2) fun l ts1 h1 => ?_
  obtain ⟨ns, rfl, g0, g1, g2, g3, g4⟩ := h1
  refine post_bnd (post_need (by decide) g4) fun _ ts2 h2 => post_ok ?_
  obtain ⟨c1, c2, c3⟩ := consUp_nice p _ g1 g2
  refine ⟨c1, c2, ?_, h2.2⟩
  have h3 := List.length_pos_iff.2 g0
  rw [c3]
  have := h0.1
  have := h2.1
  omega
theorem round_nice {E : List Tk → R Tr} (hE : RE E) (p : Nat) : ∀ ts n, One n ts → Post (roundB z E p ts) (QE n) := by
 intro ts n h0
 unfold roundB
 refine post_ite (by decide) h0.2 (fun ts1 h1 => post_ok ?_) ?_
 ·have := niceLeafE (k := 5) (p := p) (x := []) (m := 0) (by omega) (by simp)
  refine ⟨this.1, this.2.2, ?_, h1.2⟩
  have e := this.2.1
  show nodes (.mk 5 p [] 0 []) + 1 + 2 * ts1.length ≤ 2 * n
  have := h0.1
  have := h1.1
  omega
 ·refine post_bnd (hE ts h0.2) fun a ts1 h1 => post_ite (by decide) h1.2.2.2 (fun ts2 h2 => ?_) ?_
  ·refine post_bnd (hE ts2 h2.2) fun b ts3 h3 => post_bnd (post_need (by decide) h3.2.2.2) fun _ ts4 h4 => post_ok ⟨nice2E (by omega) (by simp) h1.1 h1.2.1 h3.1 h3.2.1, isEk (by decide), ?_, h4.2⟩
   show nodes (.mk 12 p [] 0 [a, b]) + 1 + 2 * ts4.length ≤ 2 * n
   rw [nodes2]
   have := h0.1
   have := h1.2.2.1
   have := h2.1
   have := h3.2.2.1
   have := h4.1
   omega
  ·refine post_bnd (post_need (by decide) h1.2.2.2) fun _ ts4 h4 => post_ok ⟨h1.1, h1.2.1, ?_, h4.2⟩
   have := h0.1
   have := h1.2.2.1
   have := h4.1
   omega
theorem atom_nice {E : List Tk → R Tr} (hE : RE E) : RE (atomB z N E) := by
 intro ts hk
 unfold atomB
 refine post_look fun t ht => post_if (fun e => ?_) (fun _ => post_if (fun e => ?_) (fun _ => post_if (fun e => ?_) (fun _ => post_if (fun e => ?_) (fun _ => post_if (fun e => ?_) (fun _ => post_if (fun e => ?_) (fun _ => post_if (fun e => ?_) (fun _ => post_err)))))))
 ·have hc := kind_cons ht (by decide) e
  have h0 := one_tail hc hk
  obtain ⟨r, hr⟩ := hc
  have hx := (hk t (by rw [hr]; simp)).1 (by simpa using e)
  have := niceLeafE (k := 6) (p := t.pos) (x := t.text) (m := 0) (by omega) hx
  refine post_ok ⟨this.1, this.2.2, ?_, h0.2⟩
  have e := this.2.1
  show nodes (.mk 6 t.pos t.text 0 []) + 1 + 2 * ts.tail.length ≤ 2 * ts.length
  have := h0.1
  omega
 ·have hc := kind_cons ht (by decide) e
  have h0 := one_tail hc hk
  obtain ⟨r, hr⟩ := hc
  have hx := (hk t (by rw [hr]; simp)).2 (by simpa using e)
  have := niceInt (p := t.pos) (m := t.num) (by omega)
  refine post_ok ⟨this.1, isEk (by decide), ?_, h0.2⟩
  have e := this.2
  have := h0.1
  omega
 ·have h0 := one_tail (text_cons ht (by decide) e) hk
  refine post_bnd (post_num h0.2) fun u ts1 h1 => post_ok ?_
  have := niceInt (p := t.pos) (m := -u.num) (by have := h1.1; omega)
  refine ⟨this.1, isEk (by decide), ?_, h1.2.2⟩
  have e := this.2
  have := h0.1
  have := h1.2.1
  omega
 ·have h0 := one_tail (text_cons ht (by decide) e) hk
  have := niceLeafE (k := 4) (p := t.pos) (x := []) (m := 1) (by omega) (by simp)
  refine post_ok ⟨this.1, this.2.2, ?_, h0.2⟩
  have e := this.2.1
  have := h0.1
  omega
 ·have h0 := one_tail (text_cons ht (by decide) e) hk
  have := niceLeafE (k := 4) (p := t.pos) (x := []) (m := 0) (by omega) (by simp)
  refine post_ok ⟨this.1, this.2.2, ?_, h0.2⟩
  have e := this.2.1
  show nodes (.mk 4 t.pos [] 0 []) + 1 + 2 * ts.tail.length ≤ 2 * ts.length
  have := h0.1
  omega
 ·exact round_nice hE _ _ _ (one_tail (text_cons ht (by decide) e) hk)
 ·exact square_nice hE _ _ _ (one_tail (text_cons ht (by decide) e) hk)
theorem apps_nice {E : List Tk → R Tr} (hE : RE E) : ∀ (n : Nat) (a : Tr) (ts : List Tk) (k : Nat), QE k a ts → Post (appsB z N E n a ts) (QE k) := by
 intro n
 induction n with
 | zero => intro a ts k _; exact post_look fun _ _ => post_err
 | succ n ih =>
  intro a ts k h
  rw [appsB]
  refine post_look fun t _ => post_if (fun _ => post_bnd (atom_nice hE ts h.2.2.2) fun b ts1 h1 => ih _ ts1 k ⟨nice2E (by omega) (by simp) h.1 h.2.1 h1.1 h1.2.1, isEk (by decide), ?_, h1.2.2.2⟩) (fun _ => post_ok h)
  show nodes (.mk 8 a.pos [] 0 [a, b]) + 1 + 2 * ts1.length ≤ 2 * k
  rw [nodes2]
  have := h.2.2.1
  have := h1.2.2.1
  omega
theorem app_nice {E : List Tk → R Tr} (hE : RE E) : RE (appB z N E) := by
 intro ts hk
 unfold appB
 refine post_look fun t ht => post_if (fun e => ?_) (fun _ => post_if (fun e => ?_) (fun _ => post_if (fun e => ?_) (fun _ => ?_)))
 ·have h0 := one_tail (text_cons ht (by decide) e) hk
  refine post_bnd (post_name h0.2) fun x ts1 h1 => post_bnd (atom_nice hE ts1 h1.2.2) fun a ts2 h2 => post_ok ⟨nice1E (by omega) h1.1 h2.1 h2.2.1, isEk (by decide), ?_, h2.2.2.2⟩
  show nodes (.mk 19 t.pos x.text 0 [a]) + 1 + 2 * ts2.length ≤ 2 * ts.length
  rw [nodes1]
  have := h0.1
  have := h1.2.1
  have := h2.2.2.1
  omega
 ·have h0 := one_tail (text_cons ht (by decide) e) hk
  refine post_bnd (atom_nice hE _ h0.2) fun a ts2 h2 => post_ok ⟨nice1E (by omega) (by simp) h2.1 h2.2.1, isEk (by decide), ?_, h2.2.2.2⟩
  show nodes (.mk 13 t.pos [] 0 [a]) + 1 + 2 * ts2.length ≤ 2 * ts.length
  rw [nodes1]
  have := h0.1
  have := h2.2.2.1
  omega
 ·have h0 := one_tail (text_cons ht (by decide) e) hk
  refine post_bnd (atom_nice hE _ h0.2) fun a ts2 h2 => post_ok ⟨nice1E (by omega) (by simp) h2.1 h2.2.1, isEk (by decide), ?_, h2.2.2.2⟩
  show nodes (.mk 14 t.pos [] 0 [a]) + 1 + 2 * ts2.length ≤ 2 * ts.length
  rw [nodes1]
  have := h0.1
  have := h2.2.2.1
  omega
 ·exact post_bnd (atom_nice hE ts hk) fun a ts1 h1 => apps_nice hE N a ts1 _ h1
theorem op_nice {x : List UInt8} {a b : Tr} {k : Nat} {ts0 ts1 ts2 : List Tk} (hx : fiveS x) (h : QE k a ts0) (h0 : One ts0.length ts1) (h1 : QE ts1.length b ts2) : QE k (op2 x a b) ts2 := by
 have hx2 : x.length ≤ 20 := by rcases hx with rfl | rfl | rfl | rfl | rfl <;> decide
 refine ⟨nice2E (.inr (.inr (.inr (.inr (.inr ⟨rfl, hx⟩))))) hx2 h.1 h.2.1 h1.1 h1.2.1, isEk (by decide), ?_, h1.2.2.2⟩
 show nodes (.mk 18 a.pos x 0 [a, b]) + 1 + 2 * ts2.length ≤ 2 * k
 rw [nodes2]
 have := h.2.2.1
 have := h0.1
 have := h1.2.2.1
 omega
theorem muls_nice {E : List Tk → R Tr} (hE : RE E) : ∀ (n : Nat) (a : Tr) (ts : List Tk) (k : Nat), QE k a ts → Post (mulsB z N E n a ts) (QE k) := by
 intro n
 induction n with
 | zero => intro a ts k _; exact post_look fun _ _ => post_err
 | succ n ih =>
  intro a ts k h
  rw [mulsB]
  exact post_ite (by decide) h.2.2.2 (fun ts1 h1 => post_bnd (app_nice hE ts1 h1.2) fun b ts2 h2 => ih _ ts2 k (op_nice (.inr (.inr (.inl rfl))) h h1 h2)) (post_ok h)
theorem mul_nice {E : List Tk → R Tr} (hE : RE E) : RE (mulB z N E) := by
 intro ts hk
 unfold mulB
 exact post_bnd (app_nice hE ts hk) fun a ts1 h1 => muls_nice hE N a ts1 _ h1
theorem sums_nice {E : List Tk → R Tr} (hE : RE E) : ∀ (n : Nat) (a : Tr) (ts : List Tk) (k : Nat), QE k a ts → Post (sumsB z N E n a ts) (QE k) := by
 intro n
 induction n with
 | zero => intro a ts k _; exact post_look fun _ _ => post_err
 | succ n ih =>
  intro a ts k h
  rw [sumsB]
  refine post_look fun t ht => post_if (fun e => ?_) (fun _ => post_ok h)
  have hx : fiveS t.text ∧ ∃ r, ts = t :: r := by
   rcases Bool.or_eq_true_iff.1 e with e | e
   ·exact ⟨.inl (by simpa [s_plus] using e), text_cons ht (by decide) e⟩
   ·exact ⟨.inr (.inl (by simpa [s_minus] using e)), text_cons ht (by decide) e⟩
  have h0 := one_tail hx.2 h.2.2.2
  exact post_bnd (mul_nice hE _ h0.2) fun b ts2 h2 => ih _ ts2 k (op_nice hx.1 h h0 h2)
theorem sum_nice {E : List Tk → R Tr} (hE : RE E) : RE (sumB z N E) := by
 intro ts hk
 unfold sumB
 exact post_bnd (mul_nice hE ts hk) fun a ts1 h1 => sums_nice hE N a ts1 _ h1
theorem cons_nice {E : List Tk → R Tr} (hE : RE E) : ∀ n, RE (consB z N E n) := by
 intro n
 induction n with
 | zero => intro ts _; exact post_look fun _ _ => post_err
 | succ n ih =>
  intro ts hk
  rw [consB]
  refine post_bnd (sum_nice hE ts hk) fun a ts1 h1 => post_ite (by decide) h1.2.2.2 (fun ts2 h2 => post_bnd (ih ts2 h2.2) fun b ts3 h3 => post_ok ⟨nice2E (by omega) (by simp) h1.1 h1.2.1 h3.1 h3.2.1, isEk (by decide), ?_, h3.2.2.2⟩) (post_ok h1)
  show nodes (.mk 16 a.pos [] 0 [a, b]) + 1 + 2 * ts3.length ≤ 2 * ts.length
  rw [nodes2]
  have := h1.2.2.1
  have := h2.1
  have := h3.2.2.1
  omega
theorem comp_nice {E : List Tk → R Tr} (hE : RE E) : RE (compB z N E) := by
 intro ts hk
 unfold compB
 refine post_bnd (cons_nice hE N ts hk) fun a ts1 h1 => post_look fun t ht => post_if (fun e => ?_) (fun _ => post_ok h1)
 have hx : fiveS t.text ∧ ∃ r, ts1 = t :: r := by
  rcases Bool.or_eq_true_iff.1 e with e | e
  ·exact ⟨.inr (.inr (.inr (.inr (by simpa [s_eqeq] using e)))), text_cons ht (by decide) e⟩
  ·exact ⟨.inr (.inr (.inr (.inl (by simpa [s_lt] using e)))), text_cons ht (by decide) e⟩
 have h0 := one_tail hx.2 h1.2.2.2
 exact post_bnd (cons_nice hE N _ h0.2) fun b ts2 h2 => post_ok (op_nice hx.1 h1 h0 h2)
theorem seq_nice {E : List Tk → R Tr} (hE : RE E) : RE (seqB z N E) := by
 intro ts hk
 unfold seqB
 refine post_bnd (comp_nice hE ts hk) fun a ts1 h1 => post_ite (by decide) h1.2.2.2 (fun ts2 h2 => post_bnd (hE ts2 h2.2) fun b ts3 h3 => post_ok ⟨nice2E (by omega) (by simp) h1.1 h1.2.1 h3.1 h3.2.1, isEk (by decide), ?_, h3.2.2.2⟩) (post_ok h1)
 show nodes (.mk 10 a.pos [] 0 [a, b]) + 1 + 2 * ts3.length ≤ 2 * ts.length
 rw [nodes2]
 have := h1.2.2.1
 have := h2.1
 have := h3.2.2.1
 omega
theorem names_nice (least : Nat) : ∀ (n : Nat) (l ts : List Tk), TkOK ts → (∀ t ∈ l, t.text.length ≤ 20) → Post (namesB z least n l ts) (fun l' ts' => (∀ t ∈ l', t.text.length ≤ 20) ∧ least ≤ l'.length ∧ l'.length + ts'.length = l.length + ts.length ∧ TkOK ts') := by
 intro n
 induction n with
 | zero => intro l ts _ _; exact post_look fun _ _ => post_err
 | succ n ih =>
  intro l ts hk hl
  rw [namesB]
  have step : Post (bnd (kindB z 2 ts) fun t ts => namesB z least n (l ++ [t]) ts) (fun l' ts' => (∀ t ∈ l', t.text.length ≤ 20) ∧ least ≤ l'.length ∧ l'.length + ts'.length = l.length + ts.length ∧ TkOK ts') := by
   refine post_bnd (post_name hk) fun t ts1 h1 => (ih (l ++ [t]) ts1 h1.2.2 (fun u hu => ?_)).mono ?_
   ·rcases List.mem_append.1 hu with hu | hu
    ·exact hl u hu
    ·rw [List.mem_singleton.1 hu]; exact h1.1
   ·rintro l' ts' ⟨g1, g2, g3, g4⟩
    refine ⟨g1, g2, ?_, g4⟩
    rw [List.length_append] at g3
    simp only [List.length_cons, List.length_nil] at g3
    have := h1.2.1
    omega
  refine post_if (fun _ => step) (fun hlt => post_look fun t _ => post_if (fun _ => step) (fun _ => post_ok ⟨hl, by omega, rfl, hk⟩))
theorem fns_nice (b : Tr) (hb : Nice b) (he : isE b) : ∀ (l : List Tk), (∀ t ∈ l, t.text.length ≤ 20) → Nice (fns l b) ∧ isE (fns l b) ∧ nodes (fns l b) = l.length + nodes b ∧ (l ≠ [] → (fns l b).kind = 7) := by
 intro l
 induction l with
 | nil => intro _; exact ⟨hb, he, by show nodes b = _; simp, fun h => absurd rfl h⟩
 | cons t l ih =>
  intro h
  obtain ⟨i1, i2, i3, _⟩ := ih (fun u hu => h u (by simp [hu]))
  have e : fns (t :: l) b = .mk 7 t.pos t.text 0 [fns l b] := rfl
  rw [e]
  refine ⟨nice1E (by omega) (h t (by simp)) i1 i2, isEk (by decide), ?_, fun _ => rfl⟩
  rw [nodes1, i3, List.length_cons]
  omega
theorem bind_nice {E : List Tk → R Tr} (hE : RE E) (least : Nat) (ts : List Tk) (hk : TkOK ts) :
  Post (bindB z N E least ts) (fun d ts' => (d.1 = 0 ∨ d.1 = 1) ∧ d.2.1.length ≤ 20 ∧ Nice d.2.2 ∧ isE d.2.2 ∧ ((d.1 = 1 ∨ 1 ≤ least) → d.2.2.kind = 7) ∧ nodes d.2.2 + 4 + 2 * ts'.length ≤ 2 * ts.length ∧ TkOK ts') := by
 unfold bindB
 refine post_ite (by decide) hk (fun ts1 h1 => ?_) ?_
 ·refine post_bnd (post_name h1.2) fun x ts2 h2 => post_bnd (names_nice 1 N [] ts2 h2.2.2 (by simp)) fun l ts3 h3 => post_bnd (post_need (by decide) h3.2.2.2) fun _ ts4 h4 => post_bnd (hE ts4 h4.2) fun b ts5 h5 => post_ok ?_
  obtain ⟨f1, f2, f3, f4⟩ := fns_nice b h5.1 h5.2.1 l h3.1
  refine ⟨.inr rfl, h2.1, f1, f2, fun _ => f4 (List.length_pos_iff.1 h3.2.1), ?_, h5.2.2.2⟩
  show nodes (fns l b) + 4 + 2 * ts5.length ≤ 2 * ts.length
  rw [f3]
  have := h1.1
  have := h2.2.1
  have := h3.2.2.1
  have := h4.1
  have := h5.2.2.1
  simp only [List.length_nil] at *
  omega
 ·refine post_bnd (post_name hk) fun x ts2 h2 => post_bnd (names_nice least N [] ts2 h2.2.2 (by simp)) fun l ts3 h3 => post_bnd (post_need (by decide) h3.2.2.2) fun _ ts4 h4 => post_bnd (hE ts4 h4.2) fun b ts5 h5 => post_ok ?_
  obtain ⟨f1, f2, f3, f4⟩ := fns_nice b h5.1 h5.2.1 l h3.1
  refine ⟨.inl rfl, h2.1, f1, f2, fun h => f4 (List.length_pos_iff.1 ?_), ?_, h5.2.2.2⟩
  ·rcases h with h | h
   ·cases h
   ·have := h3.2.1; omega
  ·show nodes (fns l b) + 4 + 2 * ts5.length ≤ 2 * ts.length
   rw [f3]
   have := h2.2.1
   have := h3.2.2.1
   have := h4.1
   have := h5.2.2.1
   simp only [List.length_nil] at *
   omega
theorem take_nice {α : Type} {ts : List Tk} {t0 : Tk} (h : ∃ r, ts = t0 :: r) (hk : TkOK ts) {f : Tk → List Tk → R α} {Q : α → List Tk → Prop} (hf : ∀ ts', One ts.length ts' → Post (f t0 ts') Q) : Post (bnd (takeB z ts) f) Q := by
 have h0 := one_tail h hk
 obtain ⟨r, rfl⟩ := h
 exact hf r h0
theorem let_nice {E : List Tk → R Tr} (hE : RE E) {ts : List Tk} {t0 : Tk} (h : ∃ r, ts = t0 :: r) (hk : TkOK ts) : Post (letB z N E ts) (QE ts.length) := by
 unfold letB
 refine take_nice h hk fun ts1 h1 => post_bnd (bind_nice hE 0 ts1 h1.2) fun d ts2 h2 => post_bnd (post_need (by decide) h2.2.2.2.2.2.2) fun _ ts3 h3 => post_bnd (hE ts3 h3.2) fun b ts4 h4 => post_ok ?_
 obtain ⟨d1, d2, d3, d4, d5, d6, d7⟩ := h2
 refine ⟨?_, isEk (by decide), ?_, h4.2.2.2⟩
 ·rcases d1 with e | e
  ·exact nice2E (.inr (.inl ⟨rfl, by rw [e]; decide⟩)) d2 d3 d4 h4.1 h4.2.1
  ·rw [Nice]
   refine ⟨d2, ?_, by simp [NiceL, d3, h4.1]⟩
   exact .inr (.inr (.inr (.inr (.inr (.inr (.inl ⟨rfl, e, d.2.2, b, rfl, d5 (.inl e), h4.2.1⟩))))))
 ·rw [nodes2]
  have := h1.1
  have := h3.1
  have := h4.2.2.1
  omega
theorem at_nice {k p q : Nat} {x : List UInt8} {m : Int} {l : List Tr} (h : Nice (.mk k p x m l)) : Nice (.mk k q x m l) := by
 rw [Nice] at h ⊢
 exact h
theorem fn_nice {E : List Tk → R Tr} (hE : RE E) {ts : List Tk} {t0 : Tk} (h : ∃ r, ts = t0 :: r) (hk : TkOK ts) : Post (fnB z N E ts) (QE ts.length) := by
 unfold fnB
 refine take_nice h hk fun ts1 h1 => post_bnd (names_nice 1 N [] ts1 h1.2 (by simp)) fun l ts2 h2 => post_bnd (post_need (by decide) h2.2.2.2) fun _ ts3 h3 => post_bnd (hE ts3 h3.2) fun b ts4 h4 => post_ok ?_
 obtain ⟨f1, f2, f3, f4⟩ := fns_nice b h4.1 h4.2.1 l h2.1
 have e1 : Nice ((fns l b).at t0.pos) ∧ isE ((fns l b).at t0.pos) ∧ nodes ((fns l b).at t0.pos) = nodes (fns l b) := by
  generalize fns l b = F at f1 f2
  obtain ⟨k, p, x, m, kl⟩ := F
  exact ⟨at_nice f1, f2, by show nodes (.mk k t0.pos x m kl) = _; simp only [nodes]⟩
 refine ⟨e1.1, e1.2.1, ?_, h4.2.2.2⟩
 rw [e1.2.2, f3]
 have := h1.1
 have := h2.2.2.1
 have := h3.1
 have := h4.2.2.1
 simp only [List.length_nil] at *
 omega
theorem if_nice {E : List Tk → R Tr} (hE : RE E) {ts : List Tk} {t0 : Tk} (h : ∃ r, ts = t0 :: r) (hk : TkOK ts) : Post (ifB z E ts) (QE ts.length) := by
 unfold ifB
 refine take_nice h hk fun ts1 h1 => post_bnd (hE ts1 h1.2) fun a ts2 h2 => post_bnd (post_need (by decide) h2.2.2.2) fun _ ts3 h3 => post_bnd (hE ts3 h3.2) fun b ts4 h4 => post_bnd (post_need (by decide) h4.2.2.2) fun _ ts5 h5 => post_bnd (hE ts5 h5.2) fun c ts6 h6 => post_ok ⟨?_, isEk (by decide), ?_, h6.2.2.2⟩
 ·show Nice (.mk 11 t0.pos [] 0 [a, b, c])
  rw [Nice]
  refine ⟨by simp, ?_, by simp [NiceL, h2.1, h4.1, h6.1]⟩
  exact .inr (.inr (.inr (.inr (.inr (.inr (.inr (.inl ⟨rfl, a, b, c, rfl, h2.2.1, h4.2.1, h6.2.1⟩)))))))
 ·show nodes (.mk 11 t0.pos [] 0 [a, b, c]) + 1 + 2 * ts6.length ≤ 2 * ts.length
  simp only [nodes, nodesL]
  have := h1.1
  have := h2.2.2.1
  have := h3.1
  have := h4.2.2.1
  have := h5.1
  have := h6.2.2.1
  omega
theorem cases_nice {E : List Tk → R Tr} (hE : RE E) {ts : List Tk} {t0 : Tk} (h : ∃ r, ts = t0 :: r) (hk : TkOK ts) : Post (casesB z E ts) (QE ts.length) := by
 unfold casesB
 refine take_nice h hk fun ts1 h1 => post_bnd (hE ts1 h1.2) fun e ts2 h2 => post_bnd (post_need (by decide) h2.2.2.2) fun _ ts3 h3 => post_bnd (post_need (by decide) h3.2) fun _ ts4 h4 => post_bnd (post_need (by decide) h4.2) fun _ ts5 h5 => post_bnd (post_need (by decide) h5.2) fun _ ts6 h6 => post_bnd (hE ts6 h6.2) fun a ts7 h7 => post_bnd (post_need (by decide) h7.2.2.2) fun _ ts8 h8 => post_bnd (post_named h8.2) fun x ts9 h9 => post_bnd (post_need (by decide) h9.2.2) fun _ ts10 h10 => post_bnd (post_named h10.2) fun y ts11 h11 => post_bnd (post_need (by decide) h11.2.2) fun _ ts12 h12 => post_bnd (hE ts12 h12.2) fun b ts13 h13 => post_bnd (post_need (by decide) h13.2.2.2) fun _ ts14 h14 => post_ok ⟨?_, isEk (by decide), ?_, h14.2⟩
 ·show Nice (.mk 17 t0.pos [] 0 [e, a, x, y, b])
  rw [Nice]
  refine ⟨by simp, ?_, by simp [NiceL, h2.1, h7.1, h9.1.1, h11.1.1, h13.1]⟩
  exact .inr (.inr (.inr (.inr (.inr (.inr (.inr (.inr (.inl ⟨rfl, e, a, x, y, b, rfl, h2.2.1, h7.2.1, h13.2.1⟩))))))))
 ·show nodes (.mk 17 t0.pos [] 0 [e, a, x, y, b]) + 1 + 2 * ts14.length ≤ 2 * ts.length
  simp only [nodes, nodesL, h9.1.2.1, h11.1.2.1]
  have := h1.1
  have := h2.2.2.1
  have := h3.1
  have := h4.1
  have := h5.1
  have := h6.1
  have := h7.2.2.1
  have := h8.1
  have := h9.2.1
  have := h10.1
  have := h11.2.1
  have := h12.1
  have := h13.2.2.1
  have := h14.1
  omega
theorem ret_nice {E : List Tk → R Tr} (hE : RE E) (ts : List Tk) (hk : TkOK ts) : Post (retB z E ts) (fun a ts' => Nice a ∧ a.kind = 21 ∧ nodes a + 2 * ts'.length ≤ 2 * ts.length ∧ TkOK ts') := by
 unfold retB
 refine post_look fun t _ => post_bnd (post_need (by decide) hk) fun _ ts1 h1 => post_bnd (post_name h1.2) fun x ts2 h2 => post_bnd (post_need (by decide) h2.2.2) fun _ ts3 h3 => post_bnd (hE ts3 h3.2) fun b ts4 h4 => post_ok ⟨nice1E (by omega) h2.1 h4.1 h4.2.1, rfl, ?_, h4.2.2.2⟩
 show nodes (.mk 21 t.pos x.text 0 [b]) + 2 * ts4.length ≤ 2 * ts.length
 rw [nodes1]
 have := h1.1
 have := h2.2.1
 have := h3.1
 have := h4.2.2.1
 omega
theorem clause_nice {E : List Tk → R Tr} (hE : RE E) (ts : List Tk) (hk : TkOK ts) : Post (clauseB z E ts) (fun a ts' => Nice a ∧ a.kind = 22 ∧ nodes a + 2 * ts'.length ≤ 2 * ts.length ∧ TkOK ts') := by
 unfold clauseB
 refine post_bnd (post_name hk) fun o ts1 h1 => post_bnd (post_named h1.2.2) fun y ts2 h2 => post_bnd (post_named h2.2.2) fun k ts3 h3 => post_bnd (post_need (by decide) h3.2.2) fun _ ts4 h4 => post_bnd (hE ts4 h4.2) fun c ts5 h5 => post_ok ⟨?_, rfl, ?_, h5.2.2.2⟩
 ·show Nice (.mk 22 o.pos o.text 0 [y, k, c])
  rw [Nice]
  refine ⟨h1.1, ?_, by simp [NiceL, h2.1.1, h3.1.1, h5.1]⟩
  exact .inr (.inr (.inr (.inr (.inr (.inr (.inr (.inr (.inr (.inr (.inl ⟨rfl, y, k, c, rfl, h5.2.1⟩))))))))))
 ·show nodes (.mk 22 o.pos o.text 0 [y, k, c]) + 2 * ts5.length ≤ 2 * ts.length
  simp only [nodes, nodesL, h2.1.2.1, h3.1.2.1]
  have := h1.2.1
  have := h2.2.1
  have := h3.2.1
  have := h4.1
  have := h5.2.2.1
  omega
theorem clauses_nice {E : List Tk → R Tr} (hE : RE E) : ∀ (n : Nat) (l : List Tr) (ts : List Tk), TkOK ts → Post (clausesB z E n l ts) (fun l' ts' => ∃ cs, l' = l ++ cs ∧ NiceL cs ∧ (∀ q ∈ cs, q.kind = 22) ∧ nodesL cs + 2 * ts'.length ≤ 2 * ts.length ∧ TkOK ts') := by
 intro n
 induction n with
 | zero => intro l ts _; exact post_look fun _ _ => post_err
 | succ n ih =>
  intro l ts hk
  rw [clausesB]
  refine post_ite (by decide) hk (fun ts1 h1 => post_bnd (clause_nice hE ts1 h1.2) fun c ts2 h2 => (ih _ ts2 h2.2.2.2).mono ?_) (post_ok ⟨[], by simp, by simp [NiceL], by simp, by simp [nodesL], hk⟩)
  rintro l' ts' ⟨cs, rfl, g1, g2, g3, g4⟩
  refine ⟨c :: cs, by simp, ?_, ?_, ?_, g4⟩
  ·rw [NiceL]; exact ⟨h2.1, g1⟩
  ·intro q hq
   rcases List.mem_cons.1 hq with rfl | hq
   ·exact h2.2.1
   ·exact g2 q hq
  ·rw [nodesL]
   have := h1.1
   have := h2.2.2.1
   omega
theorem handle_nice {E : List Tk → R Tr} (hE : RE E) {ts : List Tk} {t0 : Tk} (h : ∃ r, ts = t0 :: r) (hk : TkOK ts) : Post (handleB z N E ts) (QE ts.length) := by
 unfold handleB
 refine take_nice h hk fun ts1 h1 => post_bnd (hE ts1 h1.2) fun e ts2 h2 => post_bnd (post_need (by decide) h2.2.2.2) fun _ ts3 h3 => post_bnd (post_need (by decide) h3.2) fun _ ts4 h4 => post_bnd (ret_nice hE ts4 h4.2) fun r ts5 h5 => post_bnd (clauses_nice hE N [e, r] ts5 h5.2.2.2) fun l ts6 h6 => ?_
 obtain ⟨cs, rfl, g1, g2, g3, g4⟩ := h6
 refine post_bnd (post_need (by decide) g4) fun _ ts7 h7 => post_ok ⟨?_, isEk (by decide), ?_, h7.2⟩
 ·rw [Nice]
  refine ⟨by simp, ?_, by simp [NiceL, h2.1, h5.1, g1]⟩
  exact .inr (.inr (.inr (.inr (.inr (.inr (.inr (.inr (.inr (.inl ⟨rfl, e, r, cs, rfl, h2.2.1, h5.2.1, g2⟩)))))))))
 ·simp only [nodes, nodesL, List.cons_append, List.nil_append]
  have := h1.1
  have := h2.2.2.1
  have := h3.1
  have := h4.1
  have := h5.2.2.1
  have := h7.1
  omega
theorem any_nice {E : List Tk → R Tr} (hE : RE E) : RE (anyB z N E) := by
 intro ts hk
 unfold anyB
 refine post_look fun t ht => post_if (fun e => let_nice hE (text_cons ht (by decide) e) hk) (fun _ => post_if (fun e => fn_nice hE (text_cons ht (by decide) e) hk) (fun _ => post_if (fun e => if_nice hE (text_cons ht (by decide) e) hk) (fun _ => post_if (fun e => cases_nice hE (text_cons ht (by decide) e) hk) (fun _ => post_if (fun e => ?_) (fun _ => seq_nice hE ts hk)))))
 rcases Bool.or_eq_true_iff.1 e with e | e
 ·exact handle_nice hE (text_cons ht (by decide) e) hk
 ·exact handle_nice hE (text_cons ht (by decide) e) hk
theorem expr_nice : ∀ n, RE (exprB z N n) := by
 intro n
 induction n with
 | zero => intro ts _; exact post_look fun _ _ => post_err
 | succ n ih =>
  intro ts hk
  rw [exprB]
  exact post_look fun _ _ => any_nice ih ts hk

open Sy Lx
variable {z : Env} {N : Nat}

theorem op_item {ts : List Tk} {t0 : Tk} (h : ∃ r, ts = t0 :: r) (hk : TkOK ts) : Post (opB z N ts) (fun a ts' => Nice a ∧ a.kind = 1 ∧ nodes a + 2 * ts'.length ≤ 2 * ts.length ∧ TkOK ts') := by
 unfold opB
 have fin : ∀ (m : Int) (ts1 : List Tk), ts1.length + 1 ≤ ts.length → TkOK ts1 → Post (bnd (kindB z 2 ts1) fun x ts => bnd (needB z s_colon ts) fun _ ts => bnd (typB z N 200 ts) fun a ts => bnd (needB z s_to ts) fun _ ts => bnd (typB z N 200 ts) fun b ts => .ok (Tr.mk 1 t0.pos x.text m [a, b], ts)) (fun a ts' => Nice a ∧ a.kind = 1 ∧ nodes a + 2 * ts'.length ≤ 2 * ts.length ∧ TkOK ts') := by
  intro m ts1 hl h1
  refine post_bnd (post_name h1) fun x ts2 h2 => post_bnd (post_need (by decide) h2.2.2) fun _ ts3 h3 => post_bnd (typ_nice 200 ts3 h3.2) fun a ts4 h4 => post_bnd (post_need (by decide) h4.2.2.2) fun _ ts5 h5 => post_bnd (typ_nice 200 ts5 h5.2) fun b ts6 h6 => post_ok ⟨?_, rfl, ?_, h6.2.2.2⟩
  ·rw [Nice]
   exact ⟨h2.1, .inr (.inr (.inr (.inr (.inr (.inl ⟨.inl rfl, a, b, rfl, h4.2.1, h6.2.1⟩))))), by simp [NiceL, h4.1, h6.1]⟩
  ·rw [nodes2]
   have := h2.2.1
   have := h3.1
   have := h4.2.2.1
   have := h5.1
   have := h6.2.2.1
   omega
 refine take_nice h hk fun ts1 h1 => post_ite (by decide) h1.2 (fun ts2 h2 => fin 1 ts2 (by have := h1.1; have := h2.1; omega) h2.2) (post_bnd (post_need (by decide) h1.2) fun _ ts2 h2 => fin 0 ts2 (by have := h1.1; have := h2.1; omega) h2.2)
theorem ops_nice : ∀ (n : Nat) (l : List Tr) (ts : List Tk), TkOK ts → Post (opsB z N n l ts) (fun l' ts' => ∃ os, l' = l ++ os ∧ NiceL os ∧ (∀ q ∈ os, q.kind = 1) ∧ nodesL os + 2 * ts'.length ≤ 2 * ts.length ∧ TkOK ts') := by
 intro n
 induction n with
 | zero => intro l ts _; exact post_look fun _ _ => post_err
 | succ n ih =>
  intro l ts hk
  rw [opsB]
  refine post_look fun t ht => post_if (fun e => post_bnd (op_item (text_cons ht (by decide) e) hk) fun c ts2 h2 => (ih _ ts2 h2.2.2.2).mono ?_) (fun _ => post_ok ⟨[], by simp, by simp [NiceL], by simp, by simp [nodesL], hk⟩)
  rintro l' ts' ⟨cs, rfl, g1, g2, g3, g4⟩
  refine ⟨c :: cs, by simp, ?_, ?_, ?_, g4⟩
  ·rw [NiceL]; exact ⟨h2.1, g1⟩
  ·intro q hq
   rcases List.mem_cons.1 hq with rfl | hq
   ·exact h2.2.1
   ·exact g2 q hq
  ·rw [nodesL]
   have := h2.2.2.1
   omega
theorem def_item {ts : List Tk} {t0 : Tk} (h : ∃ r, ts = t0 :: r) (hk : TkOK ts) : Post (defB z N ts) (fun a ts' => Nice a ∧ a.kind = 2 ∧ nodes a + 2 * ts'.length ≤ 2 * ts.length ∧ TkOK ts') := by
 unfold defB
 refine take_nice h hk fun ts1 h1 => post_bnd (bind_nice (expr_nice 200) 1 ts1 h1.2) fun d ts2 h2 => post_ok ?_
 obtain ⟨d1, d2, d3, d4, d5, d6, d7⟩ := h2
 refine ⟨?_, rfl, ?_, d7⟩
 ·rw [Nice]
  exact ⟨d2, .inr (.inr (.inr (.inr (.inr (.inr (.inr (.inr (.inr (.inr (.inr (.inr (.inl ⟨rfl, d.2.2, rfl, d5 (.inr (by omega))⟩)))))))))))), by simp [NiceL, d3]⟩
 ·rw [nodes1]
  have := h1.1
  omega
theorem defs_nice : ∀ (n : Nat) (l : List Tr) (ts : List Tk), TkOK ts → Post (defsB z N n l ts) (fun l' ts' => ∃ os, l' = l ++ os ∧ NiceL os ∧ (∀ q ∈ os, q.kind = 2) ∧ nodesL os + 2 * ts'.length ≤ 2 * ts.length ∧ TkOK ts') := by
 intro n
 induction n with
 | zero => intro l ts _; exact post_look fun _ _ => post_err
 | succ n ih =>
  intro l ts hk
  rw [defsB]
  refine post_look fun t ht => post_if (fun e => post_bnd (def_item (text_cons ht (by decide) e) hk) fun c ts2 h2 => (ih _ ts2 h2.2.2.2).mono ?_) (fun _ => post_ok ⟨[], by simp, by simp [NiceL], by simp, by simp [nodesL], hk⟩)
  rintro l' ts' ⟨cs, rfl, g1, g2, g3, g4⟩
  refine ⟨c :: cs, by simp, ?_, ?_, ?_, g4⟩
  ·rw [NiceL]; exact ⟨h2.1, g1⟩
  ·intro q hq
   rcases List.mem_cons.1 hq with rfl | hq
   ·exact h2.2.1
   ·exact g2 q hq
  ·rw [nodesL]
   have := h2.2.2.1
   omega
theorem prog_nice (ts : List Tk) (hk : TkOK ts) : Post (progB z N ts) (fun a _ => Nice a ∧ a.kind = 0 ∧ nodes a ≤ 2 * ts.length) := by
 unfold progB
 refine post_bnd (ops_nice N [] ts hk) fun o ts1 h1 => ?_
 obtain ⟨os, rfl, g1, g2, g3, g4⟩ := h1
 refine post_bnd (defs_nice N _ ts1 g4) fun d ts2 h2 => ?_
 obtain ⟨ds, rfl, k1, k2, k3, k4⟩ := h2
 refine post_bnd (post_need (by decide) k4) fun _ ts3 h3 => post_bnd (post_need (by decide) h3.2) fun _ ts4 h4 => post_bnd (expr_nice 200 ts4 h4.2) fun e ts5 h5 => post_bnd post_kind fun _ ts6 _ => post_ok ⟨?_, rfl, ?_⟩
 ·rw [Nice]
  refine ⟨by simp, ?_, ?_⟩
  ·exact .inr (.inr (.inr (.inr (.inr (.inr (.inr (.inr (.inr (.inr (.inr (.inr (.inr ⟨rfl, _, ds, e, rfl, rfl, g2, k2, h5.2.1⟩))))))))))))
  ·rw [niceL_append, niceL_append]
   exact ⟨⟨g1, k1⟩, by simp [NiceL, h5.1]⟩
 ·simp only [nodes, nodesL_append, nodesL]
  have := h3.1
  have := h4.1
  have := h5.2.2.1
  omega
end Go.Proofs.YtoajnlhegallpaaGreatDoor
