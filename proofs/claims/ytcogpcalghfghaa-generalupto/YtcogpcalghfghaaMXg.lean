/-
  The document's Solve of nothing; which pairs there are.
  The statement General: its sides; its first question.
-/
import Derived.Test.YtcogpcalghfghaaWa
import Derived.Test.YtcogpcalghfghaaMSb
import Derived.Test.YtcogpcalghfghaaXf
import Derived.Test.YtcogpcalghfghaaXb
import Derived.Test.YtcogpcalghfghaaXc
set_option linter.unusedVariables false
set_option linter.unusedSimpArgs false
namespace Go.Proofs.Ytcogpcalghfghaa
open Go.RowKit
open Un (Bag Nm Gr St put rvOf bagL Answers)

/-- The types of pairs that are proper. -/
theorem pairs_of {w : World} {A B : Nat → Raw} : ∀ (n : Nat), AllP w n A B → ∃ ps, ps.length = n ∧ PsF w A B ps ∧ ∀ p ∈ ps, p.1.ok ∧ p.2.ok ∧ p.1.parts ≤ 300 ∧ p.2.parts ≤ 300 := by
  intro n
  induction n with
  | zero => intro _; exact ⟨[], rfl, fun i p h => by simp at h, fun p h => by cases h⟩
  | succ n ih =>
    intro h
    obtain ⟨ps, h1, h2, h3⟩ := ih (fun i hi => h i (by omega))
    obtain ⟨⟨t, ht, t3⟩, ⟨u, hu, u3⟩⟩ := h n (Nat.lt_succ_self n)
    refine ⟨ps ++ [(t, u)], by simp [h1], fun i p hp => ?_, fun p hp => ?_⟩
    · by_cases e : i < ps.length
      · rw [List.getElem?_append_left e] at hp
        exact h2 i p hp
      · rw [List.getElem?_append_right (by omega)] at hp
        have hi : i = n := by
          have := (List.getElem?_eq_some_iff.1 hp).1
          simp at this
          omega
        subst hi
        rw [h1, Nat.sub_self] at hp
        obtain rfl := Option.some.inj hp
        exact ⟨ht, hu⟩
    · rcases List.mem_append.1 hp with hp | hp
      · exact h3 p hp
      · obtain rfl := List.mem_singleton.1 hp
        exact ⟨ht.1, hu.1, t3, u3⟩
theorem psF_one {w : World} {A B : Nat → Raw} {ps qs : List (Ty.P × Ty.P)} (h : PsF w A B ps) (h' : PsF w A B qs) (hl : ps.length = qs.length) : ps = qs := by
  refine List.ext_getElem hl (fun i h1 h2 => ?_)
  obtain ⟨a1, a2⟩ := h i _ (List.getElem?_eq_getElem h1)
  obtain ⟨b1, b2⟩ := h' i _ (List.getElem?_eq_getElem h2)
  exact Prod.ext (a1.one b1) (a2.one b2)
theorem tysV_nil {w : World} : TysV w (.slice none 0 0) [] := ⟨none, 0, rfl, fun h => absurd rfl h⟩

/-- What is answered is small. -/
theorem answers_small : ∀ (ps : List (Ty.P × Ty.P)) (i : Nat) (S : St) (l : List Nat) (out : List Ty.P) (f : Nat × Nat), l.length + ps.length ≤ 20 → S.OK → (∀ p ∈ ps, p.1.ok ∧ p.2.ok) → (∀ j ∈ l, j < S.G.n ∧ ∃ s, S.G.Parts j s ∧ s ≤ 300) → Answers ps i S l out f → ∀ t ∈ out, t.parts ≤ 300 := by
  intro ps
  induction ps with
  | nil =>
    rintro i S l out f _ hS _ hl ⟨_, ht⟩
    have key : ∀ (l : List Nat) (N : Gr.Nms) (out : List Ty.P), (∀ j ∈ l, j < S.G.n ∧ ∃ s, S.G.Parts j s ∧ s ≤ 300) → Answers.ToldAll S.G l N out → ∀ t ∈ out, t.parts ≤ 300 := by
      intro l
      induction l with
      | nil => intro N out _ h t ht; rw [show out = [] from h] at ht; cases ht
      | cons j l ih =>
        rintro N out hl ⟨k, t, N', o, h1, h2, rfl⟩ x hx
        obtain ⟨hj, s, hs, h3⟩ := hl j (by simp)
        rcases List.mem_cons.1 hx with rfl | hx
        · have := (Un.Gr.told_parts hS.g hj h1).one hs
          omega
        · exact ih N' o (fun y hy => hl y (by simp [hy])) h2 x hx
    exact key l _ out hl ht
  | cons p r ih =>
    intro i S l out f hn hS hp hl h
    obtain ⟨a1, a2, a3, a4, _⟩ := Un.put_ok p.1 (hp p (by simp)).1 S hS
    obtain ⟨b1, b2, b3, b4, _⟩ := Un.put_ok p.2 (hp p (by simp)).2 _ a1
    unfold Answers at h
    simp only at h
    cases hu : Gr.uni ((put p.2 (put p.1 S).2).2.G.n + 1) (put p.2 (put p.1 S).2).2.G (put p.1 S).1 (put p.2 (put p.1 S).2).1 with
    | none => rw [hu] at h; intro t ht; rw [h.1] at ht; cases ht
    | some H =>
      rw [hu] at h
      simp only at h
      rcases h with ⟨_, h, _⟩ | ⟨_, _, h, _⟩ | ⟨hq, h⟩
      · intro t ht; rw [h] at ht; cases ht
      · intro t ht; rw [h] at ht; cases ht
      · obtain ⟨u1, u2⟩ := Gr.uni_ok _ _ _ _ _ b1.g (by omega) b2 hu
        refine ih (i + 1) ⟨H, _⟩ (l ++ [(put p.1 S).1]) out f (by simp at hn ⊢; omega) ⟨u1, Nat.le_trans b1.big u2.m, fun q hq => by rw [u2.n]; exact b1.tv q hq⟩ (fun q hq => hp q (by simp [hq])) (fun j hj => ⟨?_, hq j hj⟩) h
        show j < H.n
        rw [u2.n]
        rcases List.mem_append.1 hj with hj | hj
        · have := (hl j hj).1
          omega
        · obtain rfl := List.mem_singleton.1 hj
          omega

theorem toldAll_len {G : Gr} : ∀ (l : List Nat) (N : Gr.Nms) (out : List Ty.P), Answers.ToldAll G l N out → out.length = l.length := by
  intro l
  induction l with
  | nil => intro N out h; rw [show out = [] from h]; rfl
  | cons j l ih => rintro N out ⟨k, t, N', o, _, h2, rfl⟩; simp [ih N' o h2]
theorem answers_len : ∀ (ps : List (Ty.P × Ty.P)) (i : Nat) (S : St) (l : List Nat) (out : List Ty.P) (f : Nat × Nat), Answers ps i S l out f → out.length ≤ l.length + ps.length := by
  intro ps
  induction ps with
  | nil => rintro i S l out f ⟨_, ht⟩; rw [toldAll_len _ _ _ ht]; simp
  | cons p r ih =>
    intro i S l out f h
    unfold Answers at h
    simp only at h
    cases hu : Gr.uni ((put p.2 (put p.1 S).2).2.G.n + 1) (put p.2 (put p.1 S).2).2.G (put p.1 S).1 (put p.2 (put p.1 S).2).1 with
    | none => rw [hu] at h; rw [h.1]; exact Nat.zero_le _
    | some H =>
      rw [hu] at h
      simp only at h
      rcases h with ⟨_, h, _⟩ | ⟨_, _, h, _⟩ | ⟨_, h⟩
      · rw [h]; exact Nat.zero_le _
      · rw [h]; exact Nat.zero_le _
      · have := ih _ _ _ _ _ h
        simp at this ⊢
        omega
/-- What both Solves answer. -/
structure Ans (w : World) (n : Nat) (A B : Nat → Raw) (K Q : Nat) (out : List Ty.P) : Prop where
  small : ∀ t ∈ out, t.parts ≤ 300
  good : n ≤ 20 → AllP w n A B → ∃ ps, ps.length = n ∧ PsF w A B ps ∧ (∀ p ∈ ps, p.1.ok ∧ p.2.ok ∧ p.1.parts ≤ 300 ∧ p.2.parts ≤ 300) ∧ Answers ps 0 ⟨Un.emptyG, []⟩ [] out (K, Q)
  many : 20 < n → out = [] ∧ K = 11 ∧ Q = 20
  bad : n ≤ 20 → ¬ AllP w n A B → out = [] ∧ K = 11 ∧ Q < n ∧ AllP w Q A B ∧ ¬ (PropR w (A Q) ∧ PropR w (B Q))
theorem Ans.one {w : World} {n : Nat} {A B : Nat → Raw} {K Q K' Q' : Nat} {out out' : List Ty.P} (h : Ans w n A B K Q out) (h' : Ans w n A B K' Q' out') : out = out' ∧ K = K' ∧ Q = Q' := by
  by_cases hn : n ≤ 20
  · by_cases hp : AllP w n A B
    · obtain ⟨ps, a1, a2, a3, a4⟩ := h.good hn hp
      obtain ⟨qs, b1, b2, b3, b4⟩ := h'.good hn hp
      obtain rfl := psF_one a2 b2 (by omega)
      obtain ⟨e1, e2⟩ := Un.answers_one _ _ _ _ _ _ _ _ a4 b4
      cases e2
      exact ⟨e1, rfl, rfl⟩
    · obtain ⟨a1, a2, a3, a4, a5⟩ := h.bad hn hp
      obtain ⟨b1, b2, b3, b4, b5⟩ := h'.bad hn hp
      refine ⟨by rw [a1, b1], by omega, ?_⟩
      rcases Nat.lt_trichotomy Q Q' with h | h | h
      · exact absurd (b4 Q h) a5
      · exact h
      · exact absurd (a4 Q' h) b5
  · obtain ⟨a1, a2, a3⟩ := h.many (by omega)
    obtain ⟨b1, b2, b3⟩ := h'.many (by omega)
    exact ⟨by rw [a1, b1], by omega, by omega⟩
/-- What a Solve comes to. -/
def SvP (w0 w : World) (n : Nat) (A B : Nat → Raw) (en : Ending) (w' : World) : Prop :=
  ∃ (K Q : Nat) (out : List Ty.P) (v : Value), en = .returned (.tuple #[v, flt K Q]) ∧ Ans w0 n A B K Q out ∧ TysV w' v out ∧ Ch (fun _ => False) w w'
theorem psolve_says (w : World) (a : Option Addr) (g o n c : Nat) (A B : Nat → Raw) (ha : n ≠ 0 → a = some ⟨g, o, none⟩) (hM : PrC w g o n A B) :
    Calls Try.prog 4 #[.slice a n c] w fun en w' => SvP w w n A B en w' := by
  obtain ⟨ps, hps⟩ : ∃ ps, AllP w n A B → ps.length = n ∧ PsF w A B ps ∧ ∀ p ∈ ps, p.1.ok ∧ p.2.ok ∧ p.1.parts ≤ 300 ∧ p.2.parts ≤ 300 := by
    by_cases h : AllP w n A B
    · obtain ⟨ps, h1⟩ := pairs_of n h
      exact ⟨ps, fun _ => h1⟩
    · exact ⟨[], fun h' => absurd h' h⟩
  refine (psolve_any w a g o n c A B ha hM ps hps).mono ?_
  rintro en w' (⟨h1, rfl, hc⟩ | ⟨h1, j, h2, h3, h4, rfl, hc⟩ | ⟨h1, h2, out, fk, fa, h3, h4, v, rfl, h5, hc⟩)
  · exact ⟨11, 20, [], _, rfl, ⟨(fun t h => by cases h), fun h => by omega, fun _ => ⟨rfl, rfl, rfl⟩, fun h => by omega⟩, tysV_nil, hc⟩
  · exact ⟨11, j, [], _, rfl, ⟨(fun t h => by cases h), fun _ h => absurd (h j h2) h4, fun h => by omega, fun _ _ => ⟨rfl, rfl, h2, h3, h4⟩⟩, tysV_nil, hc⟩
  · obtain ⟨p1, p2, p3⟩ := hps h2
    exact ⟨fk, fa, out, v, rfl, ⟨h4, fun _ _ => ⟨ps, p1, p2, p3, h3⟩, fun h => by omega, fun _ h => absurd h2 h⟩, h5, hc⟩
end Go.Proofs.Ytcogpcalghfghaa

namespace Go.Proofs.Ytcogpcalghfghaa
open Go.RowKit
open Un (Nm ins joinB Srt RV rowW rvOf app Gr St put Answers)

theorem by_any : ∀ (k : Nat) (t : Ty.P), t.parts ≤ k → ByOK t := by
  intro k
  induction k with
  | zero => intro t h; have := t.parts_pos; omega
  | succ k ih =>
    intro t h
    by_cases h0 : t.kind = 0
    · cases t <;> simp [Ty.P.kind] at h0
      exact by_var _
    · exact by_tree h0 (fun x hx => ih x (by have := kid_lt t x hx; omega))
/-- What cells said they say later. -/
theorem FT.fwdO {w w' : World} {P O : Nat → Prop} (hc : Ch O w w') (hd : ∀ k, P k → ¬ O k) : ∀ {n : Nat} {k m r : Int} {os az : Value} {t : Ty.P}, RdO w P n os az → FT w k m r os az t → FT w' k m r os az t := by
  intro n
  induction n with
  | zero => intro k m r os az t h; exact h.elim
  | succ n ih =>
    rintro k m r os az t ⟨⟨o, h1, h2, hp⟩, a, l, c, rfl, h3, h4, h5⟩ hf
    have h1' := h1.on (w' := w') (fun h0 k hk hl => hc.same k hl (hd k (hp h0 k hk)))
    obtain ⟨q1, q2, q3⟩ := hf.gen h1
    obtain ⟨f1, f2, f3, f4⟩ := hf
    refine ⟨f1, f2, f3, ?_⟩
    subst q2
    refine isT_mk (by rw [← q1]; exact h1') h3 (fun i u hu => ?_)
    have hi : i < (kidsT t).length := (List.getElem?_eq_some_iff.1 hu).1
    obtain ⟨g, q, e2, hg, h6⟩ := h5 (by omega)
    obtain ⟨k', m', r', os', az', h7, h8⟩ := h6 i hi
    have h9 := q3 g q e2 i u hu h7
    obtain ⟨e3, e4, e5, h10⟩ := ih h8 h9
    subst e3 e4 e5
    exact ⟨g, q, os', az', e2, h7.of_heap (hc.same g h7.lt (hd g hg)), h10⟩
/-- The sides that were made so far. -/
structure Sd (w wr : World) (σ : Nat → Ty.P) (ρ : Nat → RV) (A B : Nat → Raw) (v8 : Value) (xs : List Raw) : Prop where
  ch : Ch (fun _ => False) w wr
  row : wr.ownsRow 0 27 5 v8 xs.length (xs.flatMap rawC)
  bb : ∀ k, v8.ownBlock = some k → w.heap.size ≤ k
  kd : ∀ (j : Nat) (x : Raw), xs[j]? = some x → ∃ (d : Nat) (P : Nat → Prop) (u : Ty.P), RdO wr P d x.os x.az ∧ (∀ k, P k → k < wr.heap.size ∧ v8.ownBlock ≠ some k) ∧ FTR wr x u ∧ u.ok ∧ u.parts ≤ 300 ∧ ∀ pa pb, FitsR w (A j) pa → FitsR w (B j) pb → u = app σ ρ pa ∧ app σ ρ pa = app σ ρ pb
theorem Sd.quiet {w wr w' : World} {σ : Nat → Ty.P} {ρ : Nat → RV} {A B : Nat → Raw} {v8 : Value} {xs : List Raw} (h : Sd w wr σ ρ A B v8 xs) (hc : Ch (fun _ => False) wr w') : Sd w w' σ ρ A B v8 xs := by
  refine ⟨h.ch.trans hc (fun _ h => h.elim), ownsRow_keep h.row (fun k hk => hc.same k (ownsRow_lt h.row hk) (fun h => h)), h.bb, fun j x hj => ?_⟩
  obtain ⟨d, P, u, p1, p2, p3, p4⟩ := h.kd j x hj
  exact ⟨d, P, u, p1.keep hc (fun _ _ h => h), fun k hk => ⟨Nat.lt_of_lt_of_le (p2 k hk).1 hc.size, (p2 k hk).2⟩, p3.fwd hc, p4⟩
theorem Sd.next {w wr : World} {σ : Nat → Ty.P} {ρ : Nat → RV} {A B : Nat → Raw} {v8 : Value} {xs : List Raw} (h : Sd w wr σ ρ A B v8 xs) {w6 w8 : World} {x : Raw} {d : Nat} {u : Ty.P} {v' : Value} (hc : Ch (fun _ => False) wr w6) (hx : RdO w6 (fun k => k < w.heap.size ∨ wr.heap.size ≤ k) d x.os x.az) (hu : FTR w6 x u) (hok : u.ok) (hp : u.parts ≤ 300)
    (hab : ∀ pa pb, FitsR w (A xs.length) pa → FitsR w (B xs.length) pb → u = app σ ρ pa ∧ app σ ρ pa = app σ ρ pb)
    (hrow : w8.ownsRow 0 27 5 v' (xs.length + 1) (xs.flatMap rawC ++ rawC x)) (hg : (w6.alloc (tyB x.k x.n x.r x.os x.az)).grownBy w8 v8.ownBlock) (hb : v'.ownBlock = v8.ownBlock ∨ v'.ownBlock = some (w6.alloc (tyB x.k x.n x.r x.os x.az)).heap.size) : Sd w w8 σ ρ A B v' (xs ++ [x]) := by
  have h6 := h.quiet hc
  have ca := al_ch w6 (tyB x.k x.n x.r x.os x.az)
  have c8 : Ch (fun k => v8.ownBlock = some k) (w6.alloc (tyB x.k x.n x.r x.os x.az)) w8 := Ch.grown hg (fun k hk => hk)
  have c68 : Ch (fun k => v8.ownBlock = some k) w6 w8 := (ca.mono (fun _ h => h.elim)).trans c8 (fun _ h => .inl h)
  have hsz : (w6.alloc (tyB x.k x.n x.r x.os x.az)).heap.size = w6.heap.size + 1 := by simp
  have s6 := hc.size
  have hw := h.ch.size
  have hd8 := c68.size
  refine ⟨h6.ch.trans c68 (fun k hk => .inr (h.bb k hk)), by simpa using hrow, fun k hk => ?_, fun j y hj => ?_⟩
  · rcases hb with e | e
    · exact h.bb k (e ▸ hk)
    · rw [e] at hk
      cases hk
      omega
  · by_cases ej : j < xs.length
    · rw [List.getElem?_append_left ej] at hj
      obtain ⟨dj, P, q, p1, p2, p3, p4⟩ := h6.kd j y hj
      have hdis : ∀ k, P k → ¬ v8.ownBlock = some k := fun k hk => (p2 k hk).2
      refine ⟨dj, P, q, p1.keep c68 hdis, fun k hk => ⟨Nat.lt_of_lt_of_le (p2 k hk).1 hd8, fun e => ?_⟩, FT.fwdO c68 hdis p1 p3, p4⟩
      rcases hb with e2 | e2
      · exact (p2 k hk).2 (e2 ▸ e)
      · rw [e2] at e
        cases e
        have := (p2 _ hk).1
        omega
    · rw [List.getElem?_append_right (by omega)] at hj
      have hj0 : j = xs.length := by
        have := (List.getElem?_eq_some_iff.1 hj).1
        simp at this
        omega
      subst hj0
      rw [Nat.sub_self] at hj
      obtain rfl : x = y := Option.some.inj hj
      have hx' := hx.lt
      have hdis : ∀ k, ((k < w.heap.size ∨ wr.heap.size ≤ k) ∧ k < w6.heap.size) → ¬ v8.ownBlock = some k := by
        rintro k ⟨hk, hk6⟩ e
        have h1 := h.bb k e
        have h2 := ownsRow_lt h.row e
        omega
      refine ⟨d, _, u, hx'.keep c68 hdis, fun k hk => ⟨by have := hk.2; omega, fun e => ?_⟩, FT.fwdO c68 hdis hx' hu, hok, hp, hab⟩
      rcases hb with e2 | e2
      · exact hdis k hk (e2 ▸ e)
      · rw [e2] at e
        cases e
        have := hk.2
        omega
/-- The first question's answer. -/
theorem first_ans : Answers [(Ty.P.var 7, Ty.P.int)] 0 ⟨Un.emptyG, []⟩ [] [.int] (0, 0) := by
  unfold Answers
  have hu : Gr.uni ((put .int (put (.var 7) ⟨Un.emptyG, []⟩).2).2.G.n + 1) (put .int (put (.var 7) ⟨Un.emptyG, []⟩).2).2.G (put (.var 7) ⟨Un.emptyG, []⟩).1 (put .int (put (.var 7) ⟨Un.emptyG, []⟩).2).1 = some (((put .int (put (.var 7) ⟨Un.emptyG, []⟩).2).2.G).link 0 1) := by rfl
  simp only [hu]
  refine .inr (.inr ⟨fun j hj => ?_, rfl, 1, .int, ⟨[], []⟩, [], rfl, rfl, rfl⟩)
  obtain rfl : j = 0 := by simpa [put, Un.emptyG] using hj
  exact ⟨1, ⟨1, rfl⟩, by omega⟩
theorem first_one {w : World} {K Q : Nat} {out : List Ty.P} (h : Ans w 1 (fun _ => ⟨0, 7, 0, .slice none 0 0, .slice none 0 0⟩) (fun _ => ⟨1, 0, 0, .slice none 0 0, .slice none 0 0⟩) K Q out) : K = 0 ∧ Q = 0 ∧ out = [.int] := by
  have fa : FitsR w ⟨0, 7, 0, .slice none 0 0, .slice none 0 0⟩ (.var 7) := ⟨⟨by omega, by omega⟩, rfl, rfl, rfl, ⟨_, _, rfl⟩, ⟨_, _, rfl⟩⟩
  have fb : FitsR w ⟨1, 0, 0, .slice none 0 0, .slice none 0 0⟩ .int := ⟨trivial, rfl, rfl, rfl, ⟨_, _, rfl⟩, ⟨_, _, rfl⟩⟩
  obtain ⟨ps, h1, h2, h3, h4⟩ := h.good (by omega) (fun i hi => ⟨⟨_, fa, by simp [Ty.P.parts]⟩, ⟨_, fb, by simp [Ty.P.parts]⟩⟩)
  have e : ps = [(Ty.P.var 7, Ty.P.int)] := psF_one h2 (fun i p hp => by
    cases i with
    | zero =>
      obtain rfl : (Ty.P.var 7, Ty.P.int) = p := by simpa using hp
      exact ⟨fa, fb⟩
    | succ i => simp at hp) (by simp [h1])
  subst e
  obtain ⟨e1, e2⟩ := Un.answers_one _ _ _ _ _ _ _ _ h4 first_ans
  cases e2
  exact ⟨rfl, rfl, e1⟩
/-- Row variables that are none stand for nothing. -/
theorem Mod_cut {G : Gr} {val : Nat → Ty.P} {rw : Nat → RV} (h : Un.Mod G val rw) (hG : G.OK) : Un.Mod G val (fun v => if v < G.m then rw v else ([], 0)) ∧ ∀ v, Srt (if v < G.m then rw v else (([], 0) : RV)).1 := by
  refine ⟨⟨h.rep, fun i hi hk => ?_, fun r hr => ?_, fun r hr => ?_⟩, fun v => ?_⟩
  · obtain ⟨h1, h2, h3⟩ := h.node i hi hk
    refine ⟨h1, h2, h3.trans (Un.rowW_ext fun v hv => if_pos (hG.rv_lt i hi v hv)).symm⟩
  · simp only [if_pos hr]
    exact (h.W r hr).trans (Un.rowW_ext fun v hv => if_pos (hG.W_lt r hr v hv).1).symm
  · simp only [if_pos hr]
    exact h.srt r hr
  · by_cases e : v < G.m
    · simp only [if_pos e]; exact h.srt v e
    · simp only [if_neg e]; exact List.Pairwise.nil
/-- What is answered fits the sides. -/
theorem fits_sides {W2 wr : World} {g o n n2 : Nat} {A B : Nat → Raw} {Z : Nat → Gv} {σ : Nat → Ty.P} {v8 : Value} {xs : List Raw} (hS : Sd W2 wr σ (rho n2 Z) A B v8 xs) (hx : xs.length = n) (hn : n ≤ 20) (hP : AllP W2 n A B) (hM : PrC W2 g o n A B) {K Q : Nat} {out : List Ty.P} (hA : Ans wr n A B K Q out) :
    K = 0 ∧ Q = 0 ∧ out.length = n ∧ ∃ (θ : Nat → Ty.P) (ρ : Nat → RV), (∀ r, Srt (ρ r).1) ∧ (∀ t ∈ out, t.ok ∧ t.parts ≤ 300) ∧ ∀ (j : Nat) (t : Ty.P) (x : Raw), out[j]? = some t → xs[j]? = some x → FTR wr x (app θ ρ t) ∧ (app θ ρ t).parts ≤ 300 := by
  have hPr : AllP wr n A B := fun j hj => ⟨(prop_iff hS.ch (hM.a j hj).2.rdb).2 (hP j hj).1, (prop_iff hS.ch (hM.b j hj).2.rdb).2 (hP j hj).2⟩
  obtain ⟨ps, h1, h2, h3, h4⟩ := hA.good hn hPr
  obtain ⟨qs, k1, k2, k3⟩ := pairs_of n hP
  obtain rfl := psF_one h2 (fun i p hp => ⟨fits_back (j := 0) hS.ch (k2 i p hp).1, fits_back (j := 0) hS.ch (k2 i p hp).2⟩) (by omega)
  have hp : ∀ (j : Nat) (p : Ty.P × Ty.P), ps[j]? = some p → ∃ u x, xs[j]? = some x ∧ FTR wr x u ∧ u.ok ∧ u.parts ≤ 300 ∧ u = app σ (rho n2 Z) p.1 ∧ app σ (rho n2 Z) p.1 = app σ (rho n2 Z) p.2 := by
    intro j p hj
    have hjl := (List.getElem?_eq_some_iff.1 hj).1
    obtain ⟨d, P, u, _, _, q1, q2, q3, q4⟩ := hS.kd j xs[j] (List.getElem?_eq_getElem (by omega))
    obtain ⟨f1, f2⟩ := k2 j p hj
    obtain ⟨e1, e2⟩ := q4 p.1 p.2 f1 f2
    exact ⟨u, _, List.getElem?_eq_getElem (by omega), q1, q2, q3, e1, e2⟩
  obtain ⟨hf, G', val', rw', l', c1, c2, c3, c4, c5⟩ := Un.answers_mod (σ := σ) (ρ := rho n2 Z) ps 0 ⟨Un.emptyG, []⟩ [] (fun _ => .int) (rho n2 Z) out (K, Q) ⟨Un.empty_ok, Nat.le_refl _, fun p hp => by cases hp⟩ (Un.start_mod (rho_srt n2 Z)) (fun p hpm => by
    obtain ⟨j, hj⟩ := List.getElem?_of_mem hpm
    obtain ⟨u, x, _, _, _, u3, e1, e2⟩ := hp j p hj
    exact ⟨(h3 p hpm).1, (h3 p hpm).2.1, e2, by rw [← e1]; exact u3⟩) (fun j hj => by cases hj) h4
  cases hf
  simp only [List.map_nil, List.nil_append] at c5
  obtain ⟨m1, m2⟩ := Mod_cut c2 c1
  have hl' : l'.length = n := by have := congrArg List.length c5; simp at this; omega
  obtain ⟨M, _, t1, t2⟩ := Un.later_told c1 m1 l' ⟨[], []⟩ out (fun j hj => by
    obtain ⟨q, hq⟩ := List.getElem?_of_mem hj
    have hv : (l'.map val')[q]? = some (val' j) := by rw [List.getElem?_map, hq]; rfl
    rw [c5, List.getElem?_map] at hv
    obtain ⟨p, hpq, he⟩ := Option.map_eq_some_iff.1 hv
    obtain ⟨u, x, _, _, u2, u3, e1, _⟩ := hp q p hpq
    rw [← he, ← e1]
    exact ⟨c4 j hj, u2, u3⟩) (by simp; omega) c3
  refine ⟨rfl, rfl, ?_, Un.tyOf val' M, Un.rvN (fun v => if v < G'.m then rw' v else ([], 0)) M, fun r => m2 _, t2, fun j t x ht hxj => ?_⟩
  · have := congrArg List.length t1
    simp at this
    omega
  · have hv : (out.map (app (Un.tyOf val' M) (Un.rvN (fun v => if v < G'.m then rw' v else ([], 0)) M)))[j]? = some (app (Un.tyOf val' M) (Un.rvN (fun v => if v < G'.m then rw' v else ([], 0)) M) t) := by rw [List.getElem?_map, ht]; rfl
    rw [t1, c5, List.getElem?_map] at hv
    obtain ⟨p, hpq, he⟩ := Option.map_eq_some_iff.1 hv
    obtain ⟨u, x', hx', q1, q2, q3, e1, _⟩ := hp j p hpq
    rw [hxj] at hx'
    obtain rfl := Option.some.inj hx'
    rw [← he, ← e1]
    exact ⟨q1, q3⟩
end Go.Proofs.Ytcogpcalghfghaa
