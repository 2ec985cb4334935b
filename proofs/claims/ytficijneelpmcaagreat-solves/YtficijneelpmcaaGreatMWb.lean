/-
  The document's Solve of nothing; which pairs there are.
  The statement Solves.
-/
import Derived.Test.YtficijneelpmcaaGreatWa
import Derived.Test.YtficijneelpmcaaGreatMSb
set_option linter.unusedVariables false
set_option linter.unusedSimpArgs false
namespace Go.Proofs.YtficijneelpmcaaGreat
open Go.RowKit
open Un (Bag Nm Gr St put rvOf bagL Answers)

set_option maxRecDepth 100000 in
set_option maxHeartbeats 8000000 in
theorem RSolve_zero (w : World) (a : Option Addr) (c : Nat) :
    Calls Tryz.prog 5 #[.slice a 0 c] w fun en w' => SolvePost w 0 0 en w' := by
  have h1 : ¬ ((20 : Int) < 0) := by omega
  have i1 : ¬ ((0 : Int) < 0) := by omega
  go_enter Tryz.func5, Tryz.ntmps5
  go_wp2
  have hlf : Hid ((w.alloc (.cells #[.int .i64 0, .int .i64 0] 26)).heap[w.heap.size]? = some (.cells #[.int .i64 0, .int .i64 0] 26 (0, 0))) := World.alloc_heap_new w _
  have hc0 : Hid (Ch (fun _ => False) w (w.alloc (.cells #[.int .i64 0, .int .i64 0] 26))) := al_ch w _
  generalize w.alloc (.cells #[.int .i64 0, .int .i64 0] 26) = W0 at *
  go_loopg [4] 1 (fun q v wr => v = .int .i64 0 ∧ q = 1 ∧ W0 = wr)
  case atStart => exact ⟨rfl, rfl, rfl⟩
  case round =>
    obtain ⟨rfl, rfl, rfl⟩ := hrel
    have HN := New_any W0
    go_upto_region 12 with (go_at_call 12; refine HN.mono ?_; clear HN; rintro e w1 ⟨b, G, rfl, -, -, hc1⟩; replace hc1 := hid hc1)
    go_upto_region 13 with (fail)
    go_loopg [8, 9] 1 (fun q u v w2 => v = .int .i64 0 ∧ u = .slice none 0 0 ∧ q = 1 ∧ w1 = w2)
    case atStart => exact ⟨rfl, rfl, rfl, rfl⟩
    case round =>
      obtain ⟨rfl, rfl, rfl, rfl⟩ := hrel
      have HF := Fresh_any w1
      go_upto_region 36 with (go_at_call 17; refine HF.mono ?_; clear HF; rintro e w3 ⟨T, R, rfl, -, -, -, -, -, hc3⟩; replace hc3 := hid hc3)
      have hcw : Hid (Ch (fun _ => False) W0 (w3.alloc (.cells #[.map (some T), .map (some R)] 58))) := (hc1.out.trans hc3.out (fun _ h => h.elim)).trans (al_ch w3 _) (fun _ h => h.elim)
      generalize w3.alloc (.cells #[.map (some T), .map (some R)] 58) = W4 at *
      obtain ⟨l0, l1, l2, l3⟩ := flt_cells (hcw.out.keeps hlf.out (fun h => h))
      go_loopg [18, 19] 1 (fun q u v w2 => v = .int .i64 0 ∧ u = .slice none 0 0 ∧ q = 1 ∧ W4 = w2)
      case atStart => exact ⟨rfl, rfl, rfl, rfl⟩
      case round =>
        obtain ⟨rfl, rfl, rfl, rfl⟩ := hrel
        go_wp2
        refine bodyPost_ret (v := .tuple #[.slice none 0 0, flt 0 0]) (by simp [results, Tryz.results5, go_sem, l0, l1, l2, l3]) rfl ⟨rfl, ?_⟩
        exact ((hc0.out.trans hcw.out (fun _ h => h.elim)).setX _ 0 _ (.inr (Nat.le_refl _))).setX _ 1 _ (.inr (Nat.le_refl _))

/-- The types of pairs that are proper. -/
theorem pairs_of {w : World} {A B : Nat → Raw} : ∀ (n : Nat), AllP w n A B → ∃ ps, ps.length = n ∧ PsF w A B ps ∧ ∀ p ∈ ps, p.1.ok ∧ p.2.ok ∧ p.1.parts ≤ 300 ∧ p.2.parts ≤ 300 := by
  intro n
  induction n with
  | zero => intro _; exact ⟨[], rfl, fun i p h => by simp at h, fun p h => by cases h⟩
  | succ n ih =>
    intro h
    obtain ⟨ps, h1, h2, h3⟩ := ih (fun i hi => h i (by omega))
    obtain ⟨⟨t, ht, t3⟩, ⟨u, hu, u3⟩⟩ := h n (Nat.lt_succ_self n)
    refine ⟨ps ++ [(t, u)], by simp [h1], fun i p hp => ?_, fun p hp => ?_⟩
    · by_cases e : i < ps.length
      · rw [List.getElem?_append_left e] at hp
        exact h2 i p hp
      · rw [List.getElem?_append_right (by omega)] at hp
        have hi : i = n := by
          have := (List.getElem?_eq_some_iff.1 hp).1
          simp at this
          omega
        subst hi
        rw [h1, Nat.sub_self] at hp
        obtain rfl := Option.some.inj hp
        exact ⟨ht, hu⟩
    · rcases List.mem_append.1 hp with hp | hp
      · exact h3 p hp
      · obtain rfl := List.mem_singleton.1 hp
        exact ⟨ht.1, hu.1, t3, u3⟩
theorem psF_one {w : World} {A B : Nat → Raw} {ps qs : List (Ty.P × Ty.P)} (h : PsF w A B ps) (h' : PsF w A B qs) (hl : ps.length = qs.length) : ps = qs := by
  refine List.ext_getElem hl (fun i h1 h2 => ?_)
  obtain ⟨a1, a2⟩ := h i _ (List.getElem?_eq_getElem h1)
  obtain ⟨b1, b2⟩ := h' i _ (List.getElem?_eq_getElem h2)
  exact Prod.ext (a1.one b1) (a2.one b2)
theorem psF_keep {w w' : World} {A B : Nat → Raw} {ps : List (Ty.P × Ty.P)} (h : PsF w A B ps) (hc : Ch (fun _ => False) w w') : PsF w' A B ps := fun i p hp => ⟨fits_back (j := 0) hc (h i p hp).1, fits_back (j := 0) hc (h i p hp).2⟩
theorem tysV_nil {w : World} : TysV w (.slice none 0 0) [] := ⟨none, 0, rfl, fun h => absurd rfl h⟩

/-- What is answered is small. -/
theorem answers_small : ∀ (ps : List (Ty.P × Ty.P)) (i : Nat) (S : St) (l : List Nat) (out : List Ty.P) (f : Nat × Nat), l.length + ps.length ≤ 20 → S.OK → (∀ p ∈ ps, p.1.ok ∧ p.2.ok) → (∀ j ∈ l, j < S.G.n ∧ ∃ s, S.G.Parts j s ∧ s ≤ 300) → Answers ps i S l out f → ∀ t ∈ out, t.parts ≤ 300 := by
  intro ps
  induction ps with
  | nil =>
    rintro i S l out f _ hS _ hl ⟨_, ht⟩
    have key : ∀ (l : List Nat) (N : Gr.Nms) (out : List Ty.P), (∀ j ∈ l, j < S.G.n ∧ ∃ s, S.G.Parts j s ∧ s ≤ 300) → Answers.ToldAll S.G l N out → ∀ t ∈ out, t.parts ≤ 300 := by
      intro l
      induction l with
      | nil => intro N out _ h t ht; rw [show out = [] from h] at ht; cases ht
      | cons j l ih =>
        rintro N out hl ⟨k, t, N', o, h1, h2, rfl⟩ x hx
        obtain ⟨hj, s, hs, h3⟩ := hl j (by simp)
        rcases List.mem_cons.1 hx with rfl | hx
        · have := (Un.Gr.told_parts hS.g hj h1).one hs
          omega
        · exact ih N' o (fun y hy => hl y (by simp [hy])) h2 x hx
    exact key l _ out hl ht
  | cons p r ih =>
    intro i S l out f hn hS hp hl h
    obtain ⟨a1, a2, a3, a4, _⟩ := Un.put_ok p.1 (hp p (by simp)).1 S hS
    obtain ⟨b1, b2, b3, b4, _⟩ := Un.put_ok p.2 (hp p (by simp)).2 _ a1
    unfold Answers at h
    simp only at h
    cases hu : Gr.uni ((put p.2 (put p.1 S).2).2.G.n + 1) (put p.2 (put p.1 S).2).2.G (put p.1 S).1 (put p.2 (put p.1 S).2).1 with
    | none => rw [hu] at h; intro t ht; rw [h.1] at ht; cases ht
    | some H =>
      rw [hu] at h
      simp only at h
      rcases h with ⟨_, h, _⟩ | ⟨_, _, h, _⟩ | ⟨hq, h⟩
      · intro t ht; rw [h] at ht; cases ht
      · intro t ht; rw [h] at ht; cases ht
      · obtain ⟨u1, u2⟩ := Gr.uni_ok _ _ _ _ _ b1.g (by omega) b2 hu
        refine ih (i + 1) ⟨H, _⟩ (l ++ [(put p.1 S).1]) out f (by simp at hn ⊢; omega) ⟨u1, Nat.le_trans b1.big u2.m, fun q hq => by rw [u2.n]; exact b1.tv q hq⟩ (fun q hq => hp q (by simp [hq])) (fun j hj => ⟨?_, hq j hj⟩) h
        show j < H.n
        rw [u2.n]
        rcases List.mem_append.1 hj with hj | hj
        · have := (hl j hj).1
          omega
        · obtain rfl := List.mem_singleton.1 hj
          omega

theorem toldAll_len {G : Gr} : ∀ (l : List Nat) (N : Gr.Nms) (out : List Ty.P), Answers.ToldAll G l N out → out.length = l.length := by
  intro l
  induction l with
  | nil => intro N out h; rw [show out = [] from h]; rfl
  | cons j l ih => rintro N out ⟨k, t, N', o, _, h2, rfl⟩; simp [ih N' o h2]
theorem answers_len : ∀ (ps : List (Ty.P × Ty.P)) (i : Nat) (S : St) (l : List Nat) (out : List Ty.P) (f : Nat × Nat), Answers ps i S l out f → out.length ≤ l.length + ps.length := by
  intro ps
  induction ps with
  | nil => rintro i S l out f ⟨_, ht⟩; rw [toldAll_len _ _ _ ht]; simp
  | cons p r ih =>
    intro i S l out f h
    unfold Answers at h
    simp only at h
    cases hu : Gr.uni ((put p.2 (put p.1 S).2).2.G.n + 1) (put p.2 (put p.1 S).2).2.G (put p.1 S).1 (put p.2 (put p.1 S).2).1 with
    | none => rw [hu] at h; rw [h.1]; exact Nat.zero_le _
    | some H =>
      rw [hu] at h
      simp only at h
      rcases h with ⟨_, h, _⟩ | ⟨_, _, h, _⟩ | ⟨_, h⟩
      · rw [h]; exact Nat.zero_le _
      · rw [h]; exact Nat.zero_le _
      · have := ih _ _ _ _ _ h
        simp at this ⊢
        omega
/-- What both Solves answer. -/
structure Ans (w : World) (n : Nat) (A B : Nat → Raw) (K Q : Nat) (out : List Ty.P) : Prop where
  small : ∀ t ∈ out, t.parts ≤ 300
  good : n ≤ 20 → AllP w n A B → ∃ ps, ps.length = n ∧ PsF w A B ps ∧ (∀ p ∈ ps, p.1.ok ∧ p.2.ok ∧ p.1.parts ≤ 300 ∧ p.2.parts ≤ 300) ∧ Answers ps 0 ⟨Un.emptyG, []⟩ [] out (K, Q)
  many : 20 < n → out = [] ∧ K = 11 ∧ Q = 20
  bad : n ≤ 20 → ¬ AllP w n A B → out = [] ∧ K = 11 ∧ Q < n ∧ AllP w Q A B ∧ ¬ (PropR w (A Q) ∧ PropR w (B Q))
theorem Ans.short {w : World} {n : Nat} {A B : Nat → Raw} {K Q : Nat} {out : List Ty.P} (h : Ans w n A B K Q out) : out.length ≤ 20 := by
  by_cases hn : n ≤ 20
  · by_cases hp : AllP w n A B
    · obtain ⟨ps, h1, _, _, h4⟩ := h.good hn hp
      have := answers_len _ _ _ _ _ _ h4
      simp at this
      omega
    · rw [(h.bad hn hp).1]; exact Nat.zero_le _
  · rw [(h.many (by omega)).1]; exact Nat.zero_le _
theorem Ans.one {w : World} {n : Nat} {A B : Nat → Raw} {K Q K' Q' : Nat} {out out' : List Ty.P} (h : Ans w n A B K Q out) (h' : Ans w n A B K' Q' out') : out = out' ∧ K = K' ∧ Q = Q' := by
  by_cases hn : n ≤ 20
  · by_cases hp : AllP w n A B
    · obtain ⟨ps, a1, a2, a3, a4⟩ := h.good hn hp
      obtain ⟨qs, b1, b2, b3, b4⟩ := h'.good hn hp
      obtain rfl := psF_one a2 b2 (by omega)
      obtain ⟨e1, e2⟩ := Un.answers_one _ _ _ _ _ _ _ _ a4 b4
      cases e2
      exact ⟨e1, rfl, rfl⟩
    · obtain ⟨a1, a2, a3, a4, a5⟩ := h.bad hn hp
      obtain ⟨b1, b2, b3, b4, b5⟩ := h'.bad hn hp
      refine ⟨by rw [a1, b1], by omega, ?_⟩
      rcases Nat.lt_trichotomy Q Q' with h | h | h
      · exact absurd (b4 Q h) a5
      · exact h
      · exact absurd (a4 Q' h) b5
  · obtain ⟨a1, a2, a3⟩ := h.many (by omega)
    obtain ⟨b1, b2, b3⟩ := h'.many (by omega)
    exact ⟨by rw [a1, b1], by omega, by omega⟩
/-- What a Solve comes to. -/
def SvP (w0 w : World) (n : Nat) (A B : Nat → Raw) (en : Ending) (w' : World) : Prop :=
  ∃ (K Q : Nat) (out : List Ty.P) (v : Value), en = .returned (.tuple #[v, flt K Q]) ∧ Ans w0 n A B K Q out ∧ TysV w' v out ∧ Ch (fun _ => False) w w'
theorem psolve_says (w : World) (a : Option Addr) (g o n c : Nat) (A B : Nat → Raw) (ha : n ≠ 0 → a = some ⟨g, o, none⟩) (hM : PrC w g o n A B) :
    Calls Tryz.prog 4 #[.slice a n c] w fun en w' => SvP w w n A B en w' := by
  obtain ⟨ps, hps⟩ : ∃ ps, AllP w n A B → ps.length = n ∧ PsF w A B ps ∧ ∀ p ∈ ps, p.1.ok ∧ p.2.ok ∧ p.1.parts ≤ 300 ∧ p.2.parts ≤ 300 := by
    by_cases h : AllP w n A B
    · obtain ⟨ps, h1⟩ := pairs_of n h
      exact ⟨ps, fun _ => h1⟩
    · exact ⟨[], fun h' => absurd h' h⟩
  refine (psolve_any w a g o n c A B ha hM ps hps).mono ?_
  rintro en w' (⟨h1, rfl, hc⟩ | ⟨h1, j, h2, h3, h4, rfl, hc⟩ | ⟨h1, h2, out, fk, fa, h3, h4, v, rfl, h5, hc⟩)
  · exact ⟨11, 20, [], _, rfl, ⟨(fun t h => by cases h), fun h => by omega, fun _ => ⟨rfl, rfl, rfl⟩, fun h => by omega⟩, tysV_nil, hc⟩
  · exact ⟨11, j, [], _, rfl, ⟨(fun t h => by cases h), fun _ h => absurd (h j h2) h4, fun h => by omega, fun _ _ => ⟨rfl, rfl, h2, h3, h4⟩⟩, tysV_nil, hc⟩
  · obtain ⟨p1, p2, p3⟩ := hps h2
    exact ⟨fk, fa, out, v, rfl, ⟨h4, fun _ _ => ⟨ps, p1, p2, p3, h3⟩, fun h => by omega, fun _ h => absurd h2 h⟩, h5, hc⟩
theorem rsolve_says {w0 w : World} (h0 : Ch (fun _ => False) w0 w) (a : Option Addr) (g o n c : Nat) (A B : Nat → Raw) (ha : n ≠ 0 → a = some ⟨g, o, none⟩) (hM : PrC w0 g o n A B) :
    Calls Tryz.prog 5 #[.slice a n c] w fun en w' => SvP w0 w n A B en w' := by
  by_cases hn : n ≤ 20
  case neg =>
    refine (RSolve_many w a n c (by omega)).mono ?_
    rintro en w' ⟨rfl, hc⟩
    exact ⟨11, 20, [], _, rfl, ⟨(fun t h => by cases h), fun h => by omega, fun _ => ⟨rfl, rfl, rfl⟩, fun h => by omega⟩, tysV_nil, hc⟩
  by_cases hz : n = 0
  · subst hz
    refine (RSolve_zero w a c).mono ?_
    rintro en w' ⟨rfl, hc⟩
    exact ⟨0, 0, [], _, rfl, ⟨(fun t h => by cases h), fun _ _ => ⟨[], rfl, (fun i p h => by simp at h), (fun p h => by cases h), rfl, rfl⟩, fun h => by omega, fun _ h => absurd (fun i hi => by omega) h⟩, tysV_nil, hc⟩
  obtain rfl := ha hz
  have hb : ∀ j, j < n → (PropR w (A j) ↔ PropR w0 (A j)) ∧ (PropR w (B j) ↔ PropR w0 (B j)) := fun j hj => ⟨prop_iff h0 (hM.a j hj).2.rdb, prop_iff h0 (hM.b j hj).2.rdb⟩
  have hall : ∀ j, j ≤ n → (AllP w j A B ↔ AllP w0 j A B) := fun j hj => ⟨fun h i hi => ⟨(hb i (by omega)).1.1 (h i hi).1, (hb i (by omega)).2.1 (h i hi).2⟩, fun h i hi => ⟨(hb i (by omega)).1.2 (h i hi).1, (hb i (by omega)).2.2 (h i hi).2⟩⟩
  obtain ⟨f, k, hfk⟩ : ∃ f k, AllP w n A B → ∃ ps out fk fa, ps.length = n ∧ PsF w A B ps ∧ Dg.solve f k ps 0 Dg.empty [] = some (out, fk, fa) ∧ PsF w0 A B ps ∧ (∀ p ∈ ps, p.1.ok ∧ p.2.ok ∧ p.1.parts ≤ 300 ∧ p.2.parts ≤ 300) ∧ Answers ps 0 ⟨Un.emptyG, []⟩ [] out (fk, fa) ∧ ∀ t ∈ out, t.parts ≤ 300 := by
    by_cases h : AllP w n A B
    · obtain ⟨ps, h1, h2, h3⟩ := pairs_of n ((hall n (Nat.le_refl _)).1 h)
      obtain ⟨f, k, out, fk, fa, h4, h5⟩ := Dg.solve_top ps (by omega) h3
      exact ⟨f, k, fun _ => ⟨ps, out, fk, fa, h1, psF_keep h2 h0, h4, h2, h3, h5, answers_small ps 0 _ [] out (fk, fa) (by rw [h1]; simpa using hn) ⟨Un.empty_ok, Nat.le_refl _, fun p hp => by cases hp⟩ (fun p hp => ⟨(h3 p hp).1, (h3 p hp).2.1⟩) (fun j hj => by cases hj) h5⟩⟩
    · exact ⟨0, 0, fun h' => absurd h' h⟩
  refine (RSolve_any f k w g o n c A B (by omega) (hM.pm.keep h0) (fun h => by obtain ⟨ps, out, fk, fa, h1, h2, h3, _⟩ := hfk h; exact ⟨ps, out, fk, fa, h1, h2, h3⟩)).mono ?_
  rintro en w' (⟨j, h2, h3, h4, rfl, hc⟩ | ⟨h2, ps, out, fk, fa, h3, h4, h5, v, rfl, h6, hc⟩)
  · have hn0 : ¬ (PropR w0 (A j) ∧ PropR w0 (B j)) := fun h => h4 ⟨(hb j h2).1.2 h.1, (hb j h2).2.2 h.2⟩
    exact ⟨11, j, [], _, rfl, ⟨(fun t h => by cases h), fun _ h => absurd (h j h2) hn0, fun h => by omega, fun _ _ => ⟨rfl, rfl, h2, (hall j (by omega)).1 h3, hn0⟩⟩, tysV_nil, hc⟩
  · obtain ⟨ps', out', fk', fa', q1, q2, q3, q4, q5, q6, q7⟩ := hfk h2
    obtain rfl := psF_one h4 q2 (by omega)
    rw [h5] at q3
    cases q3
    exact ⟨fk, fa, out, v, rfl, ⟨q7, fun _ _ => ⟨ps, h3, q4, q5, q6⟩, fun h => by omega, fun _ h => absurd ((hall n (Nat.le_refl _)).1 h2) h⟩, h6, hc⟩
end Go.Proofs.YtficijneelpmcaaGreat

namespace Go.Proofs.YtficijneelpmcaaGreat
open Go.RowKit

set_option maxRecDepth 100000 in
set_option maxHeartbeats 8000000 in
theorem Solves_any (w : World) (a : Option Addr) (g o n c : Nat) (A B : Nat → Raw) (ha : n ≠ 0 → a = some ⟨g, o, none⟩) (hM : PrC w g o n A B) :
    Calls Tryz.prog 3 #[.slice a n c] w fun en w' => en = .returned (.bool true) ∧ Ch (fun _ => False) w w' := by
  have HP := psolve_says w a g o n c A B ha hM
  replace hM := hid hM
  replace ha := hid ha
  go_enter Tryz.func3, Tryz.ntmps3
  go_upto_region 2 with (go_at_call 4; refine HP.mono ?_; clear HP; rintro en w1 ⟨K, Q, out, v, rfl, hA, hT, hc1⟩; replace hA := hid hA; replace hT := hid hT; replace hc1 := hid hc1)
  have hc2 : Hid (Ch (fun _ => False) w (w1.alloc (.cells #[.int .i64 K, .int .i64 Q] 26))) := hc1.out.trans (al_ch w1 _) (fun _ h => h.elim)
  have b2 : Hid ((w1.alloc (.cells #[.int .i64 K, .int .i64 Q] 26)).heap[w1.heap.size]? = some (.cells #[.int .i64 K, .int .i64 Q] 26 (0, 0))) := World.alloc_heap_new w1 _
  have hT2 : Hid (TysV (w1.alloc (.cells #[.int .i64 K, .int .i64 Q] 26)) v out) := hT.out.keep (fun k hk => (al_ch w1 _).same k hk (fun h => h))
  clear hT
  generalize w1.alloc (.cells #[.int .i64 K, .int .i64 Q] 26) = W2 at *
  have HR := rsolve_says hc2.out a g o n c A B ha.out hM.out
  go_upto_region 3 with (go_at_call 5; refine HR.mono ?_; clear HR; rintro en w3 ⟨K', Q', out', v', rfl, hA', hT', hc3⟩; replace hA' := hid hA'; replace hT' := hid hT'; replace hc3 := hid hc3)
  obtain ⟨rfl, rfl, rfl⟩ := hA.out.one hA'.out
  have hc4 : Hid (Ch (fun _ => False) W2 (w3.alloc (.cells #[.int .i64 K, .int .i64 Q] 26))) := hc3.out.trans (al_ch w3 _) (fun _ h => h.elim)
  have b4 : Hid ((w3.alloc (.cells #[.int .i64 K, .int .i64 Q] 26)).heap[w3.heap.size]? = some (.cells #[.int .i64 K, .int .i64 Q] 26 (0, 0))) := World.alloc_heap_new w3 _
  have hT4 : Hid (TysV (w3.alloc (.cells #[.int .i64 K, .int .i64 Q] 26)) v out) := hT2.out.keep (fun k hk => hc4.out.same k hk (fun h => h))
  have hU4 : Hid (TysV (w3.alloc (.cells #[.int .i64 K, .int .i64 Q] 26)) v' out) := hT'.out.keep (fun k hk => (al_ch w3 _).same k hk (fun h => h))
  have hcw : Hid (Ch (fun _ => False) w (w3.alloc (.cells #[.int .i64 K, .int .i64 Q] 26))) := hc2.out.trans hc4.out (fun _ h => h.elim)
  have hsm := hid hA.out.small
  have hshort := hA.out.short
  have b5 := hc4.out.keeps b2.out (fun h => h)
  clear hT2 hT' hA'
  generalize w3.alloc (.cells #[.int .i64 K, .int .i64 Q] 26) = W4 at *
  obtain ⟨l0, l1, -, -⟩ := flt_cells b5
  obtain ⟨m0, m1, -, -⟩ := flt_cells b4.out
  obtain ⟨va, vc, hv, hv2⟩ := hT4.out
  obtain ⟨ua, uc, hu, hu2⟩ := hU4.out
  subst hv hu
  replace hv2 := hid hv2
  replace hu2 := hid hu2
  clear b5 b4 b2 hA hc1 hc2 hc3
  go_wp2
  go_loopg [7] (out.length + 1) (fun q v wr => ∃ i : Nat, v = .int .i64 (i : Nat) ∧ i ≤ out.length ∧ q = out.length + 1 - i ∧ Hid (Ch (fun _ => False) W4 wr))
  case atStart => exact ⟨0, rfl, by omega, by omega, Ch.refl _ _⟩
  case round =>
    obtain ⟨i, rfl, hi, rfl, hC⟩ := hrel
    by_cases e : i < out.length
    · have i0 : (0 : Int) ≤ i := by omega
      have i1 : (i : Int) < (out.length : Int) := by omega
      have hwi : IntKind.i64.wrap ((i : Int) + 1) = (i : Int) + 1 := IntWalk.i64_in _ (by omega)
      have hone : out ≠ [] := fun h => by rw [h] at e; cases e
      obtain ⟨xg, rfl, hxe⟩ := hv2.out hone
      obtain ⟨yg, rfl, hye⟩ := hu2.out hone
      obtain ⟨t, ht⟩ : ∃ t, out[i]? = some t := ⟨_, List.getElem?_eq_getElem e⟩
      obtain ⟨os1, az1, hX, hXi⟩ := hxe i t ht
      obtain ⟨os2, az2, hY, hYi⟩ := hye i t ht
      have h300 := hsm.out t (List.mem_of_getElem? ht)
      have htf : Hid (FT W4 t.kind t.num t.row os1 az1 t) := ⟨rfl, rfl, rfl, hXi⟩
      have hug : Hid (FT W4 t.kind t.num t.row os2 az2 t) := ⟨rfl, rfl, rfl, hYi⟩
      have HR := fun (v : World) (hv : Ch (fun _ => False) wr v) => same_any_ty 300 W4 v t.kind t.num t.row os1 az1 t.kind t.num t.row os2 az2 (hC.out.trans hv (fun _ h => h.elim)) (hXi.rdd h300 (by omega)) (hYi.rdd h300 (by omega))
      obtain ⟨p1, p2, p3, p4, p5⟩ := hX.of_heap (hC.out.same _ hX.lt (fun h => h))
      obtain ⟨p6, p7, p8, p9, p10⟩ := hY.of_heap (hC.out.same _ hY.lt (fun h => h))
      have z1 : isSl os1 ∧ isSl az1 := by
        obtain ⟨qa, qc, qb, ql, qd, h1, h2, -⟩ := hXi.slices
        exact ⟨⟨_, _, _, h1⟩, _, _, _, h2⟩
      have z2 : isSl os2 ∧ isSl az2 := by
        obtain ⟨qa, qc, qb, ql, qd, h1, h2, -⟩ := hYi.slices
        exact ⟨⟨_, _, _, h1⟩, _, _, _, h2⟩
      obtain ⟨⟨f1, f2, f3, rfl⟩, ⟨f4, f5, f6, rfl⟩⟩ := z1
      obtain ⟨⟨g1, g2, g3, rfl⟩, ⟨g4, g5, g6, rfl⟩⟩ := z2
      replace hC := hid hC.out
      have HR0 := hid HR
      clear hxe hye hX hY hXi hYi h300 ht HR
      have HR := HR0.out
      clear HR0
      go_upto_region 8 with (fail)
      have hS0 : (fun w' => w'.cell? ⟨xg, i * 5, none⟩ = some (.int .i64 t.kind) ∧ w'.cell? ⟨xg, i * 5 + 1, none⟩ = some (.int .i64 t.num) ∧ w'.cell? ⟨xg, i * 5 + 2, none⟩ = some (.int .i64 t.row) ∧ w'.cell? ⟨xg, i * 5 + 3, none⟩ = some (.slice f1 f2 f3) ∧ w'.cell? ⟨xg, i * 5 + 4, none⟩ = some (.slice f4 f5 f6) ∧ w'.cell? ⟨yg, i * 5, none⟩ = some (.int .i64 t.kind) ∧ w'.cell? ⟨yg, i * 5 + 1, none⟩ = some (.int .i64 t.num) ∧ w'.cell? ⟨yg, i * 5 + 2, none⟩ = some (.int .i64 t.row) ∧ w'.cell? ⟨yg, i * 5 + 3, none⟩ = some (.slice g1 g2 g3) ∧ w'.cell? ⟨yg, i * 5 + 4, none⟩ = some (.slice g4 g5 g6)) wr.drew := ⟨cell_keeps (Ch.drew (fun _ => False) wr) p1, cell_keeps (Ch.drew (fun _ => False) wr) p2, cell_keeps (Ch.drew (fun _ => False) wr) p3, cell_keeps (Ch.drew (fun _ => False) wr) p4, cell_keeps (Ch.drew (fun _ => False) wr) p5, cell_keeps (Ch.drew (fun _ => False) wr) p6, cell_keeps (Ch.drew (fun _ => False) wr) p7, cell_keeps (Ch.drew (fun _ => False) wr) p8, cell_keeps (Ch.drew (fun _ => False) wr) p9, cell_keeps (Ch.drew (fun _ => False) wr) p10⟩
      refine wp_region_held_drew (S := (fun w' => w'.cell? ⟨xg, i * 5, none⟩ = some (.int .i64 t.kind) ∧ w'.cell? ⟨xg, i * 5 + 1, none⟩ = some (.int .i64 t.num) ∧ w'.cell? ⟨xg, i * 5 + 2, none⟩ = some (.int .i64 t.row) ∧ w'.cell? ⟨xg, i * 5 + 3, none⟩ = some (.slice f1 f2 f3) ∧ w'.cell? ⟨xg, i * 5 + 4, none⟩ = some (.slice f4 f5 f6) ∧ w'.cell? ⟨yg, i * 5, none⟩ = some (.int .i64 t.kind) ∧ w'.cell? ⟨yg, i * 5 + 1, none⟩ = some (.int .i64 t.num) ∧ w'.cell? ⟨yg, i * 5 + 2, none⟩ = some (.int .i64 t.row) ∧ w'.cell? ⟨yg, i * 5 + 3, none⟩ = some (.slice g1 g2 g3) ∧ w'.cell? ⟨yg, i * 5 + 4, none⟩ = some (.slice g4 g5 g6))) (by kernel_rfl) (by first | trivial | ((try dsimp only); go_keep)) (fun hHeld => ?_)
      refine wpAnyH_take (i := 0) (v := ?vvwc1) rfl (by kernel_rfl) (by kernel_rfl) (by kernel_rfl) (fun _ _ _ h => h) (Or.inl ⟨by rfl, ?yywc1⟩) (by assumption) ?rrwc1
      case yywc1 => (intro w' hSw; (try dsimp only at hSw); go_simp; (try with_reducible rfl))
      try simp only [Act.put, List.setIfInBounds_toArray, List.set_cons_zero, List.set_cons_succ]
      refine wpAnyH_take (i := 1) (v := ?vvwc2) rfl (by kernel_rfl) (by kernel_rfl) (by kernel_rfl) (fun _ _ _ h => h) (Or.inl ⟨by rfl, ?yywc2⟩) (by assumption) ?rrwc2
      case yywc2 => (intro w' hSw; (try dsimp only at hSw); go_simp; (try with_reducible rfl))
      try simp only [Act.put, List.setIfInBounds_toArray, List.set_cons_zero, List.set_cons_succ]
      refine wpAnyH_take (i := 2) (v := ?vvwc3) rfl (by kernel_rfl) (by kernel_rfl) (by kernel_rfl) (fun _ _ _ h => h) (Or.inl ⟨by rfl, ?yywc3⟩) (by assumption) ?rrwc3
      case yywc3 => (intro w' hSw; (try dsimp only at hSw); go_simp; (try with_reducible rfl))
      try simp only [Act.put, List.setIfInBounds_toArray, List.set_cons_zero, List.set_cons_succ]
      refine wpAnyH_take (i := 3) (v := ?vvwc4) rfl (by kernel_rfl) (by kernel_rfl) (by kernel_rfl) (fun _ _ _ h => h) (Or.inl ⟨by rfl, ?yywc4⟩) (by assumption) ?rrwc4
      case yywc4 => (intro w' hSw; (try dsimp only at hSw); go_simp; (try with_reducible rfl))
      try simp only [Act.put, List.setIfInBounds_toArray, List.set_cons_zero, List.set_cons_succ]
      refine wpAnyH_take (i := 4) (v := ?vvwc5) rfl (by kernel_rfl) (by kernel_rfl) (by kernel_rfl) (fun _ _ _ h => h) (Or.inl ⟨by rfl, ?yywc5⟩) (by assumption) ?rrwc5
      case yywc5 => (intro w' hSw; (try dsimp only at hSw); go_simp; (try with_reducible rfl))
      try simp only [Act.put, List.setIfInBounds_toArray, List.set_cons_zero, List.set_cons_succ]
      refine wpAnyH_take (i := 5) (v := ?vvwc6) rfl (by kernel_rfl) (by kernel_rfl) (by kernel_rfl) (fun _ _ _ h => h) (Or.inl ⟨by rfl, ?yywc6⟩) (by assumption) ?rrwc6
      case yywc6 => (intro w' hSw; (try dsimp only at hSw); go_simp; (try with_reducible rfl))
      try simp only [Act.put, List.setIfInBounds_toArray, List.set_cons_zero, List.set_cons_succ]
      refine wpAnyH_take (i := 6) (v := ?vvwc7) rfl (by kernel_rfl) (by kernel_rfl) (by kernel_rfl) (fun _ _ _ h => h) (Or.inl ⟨by rfl, ?yywc7⟩) (by assumption) ?rrwc7
      case yywc7 => (intro w' hSw; (try dsimp only at hSw); go_simp; (try with_reducible rfl))
      try simp only [Act.put, List.setIfInBounds_toArray, List.set_cons_zero, List.set_cons_succ]
      refine wpAnyH_take (i := 7) (v := ?vvwc8) rfl (by kernel_rfl) (by kernel_rfl) (by kernel_rfl) (fun _ _ _ h => h) (Or.inl ⟨by rfl, ?yywc8⟩) (by assumption) ?rrwc8
      case yywc8 => (intro w' hSw; (try dsimp only at hSw); go_simp; (try with_reducible rfl))
      try simp only [Act.put, List.setIfInBounds_toArray, List.set_cons_zero, List.set_cons_succ]
      refine wpAnyH_ready (rs := [8]) (by kernel_rfl) (by simp) (AllReadyH.cons rfl (fun K hK => ?_) AllReadyH.nil)
      go_simp
      refine (HR _ (Ch.drew (fun _ => False) wr)).mono ?_
      clear HR
      rintro en w5 ⟨b, rfl, hc5, hb5⟩
      have hS5 : (fun w' => w'.cell? ⟨xg, i * 5, none⟩ = some (.int .i64 t.kind) ∧ w'.cell? ⟨xg, i * 5 + 1, none⟩ = some (.int .i64 t.num) ∧ w'.cell? ⟨xg, i * 5 + 2, none⟩ = some (.int .i64 t.row) ∧ w'.cell? ⟨xg, i * 5 + 3, none⟩ = some (.slice f1 f2 f3) ∧ w'.cell? ⟨xg, i * 5 + 4, none⟩ = some (.slice f4 f5 f6) ∧ w'.cell? ⟨yg, i * 5, none⟩ = some (.int .i64 t.kind) ∧ w'.cell? ⟨yg, i * 5 + 1, none⟩ = some (.int .i64 t.num) ∧ w'.cell? ⟨yg, i * 5 + 2, none⟩ = some (.int .i64 t.row) ∧ w'.cell? ⟨yg, i * 5 + 3, none⟩ = some (.slice g1 g2 g3) ∧ w'.cell? ⟨yg, i * 5 + 4, none⟩ = some (.slice g4 g5 g6)) w5 := ⟨cell_keeps (((Ch.drew (fun _ => False) wr)).trans hc5 (fun _ h => h.elim)) p1, cell_keeps (((Ch.drew (fun _ => False) wr)).trans hc5 (fun _ h => h.elim)) p2, cell_keeps (((Ch.drew (fun _ => False) wr)).trans hc5 (fun _ h => h.elim)) p3, cell_keeps (((Ch.drew (fun _ => False) wr)).trans hc5 (fun _ h => h.elim)) p4, cell_keeps (((Ch.drew (fun _ => False) wr)).trans hc5 (fun _ h => h.elim)) p5, cell_keeps (((Ch.drew (fun _ => False) wr)).trans hc5 (fun _ h => h.elim)) p6, cell_keeps (((Ch.drew (fun _ => False) wr)).trans hc5 (fun _ h => h.elim)) p7, cell_keeps (((Ch.drew (fun _ => False) wr)).trans hc5 (fun _ h => h.elim)) p8, cell_keeps (((Ch.drew (fun _ => False) wr)).trans hc5 (fun _ h => h.elim)) p9, cell_keeps (((Ch.drew (fun _ => False) wr)).trans hc5 (fun _ h => h.elim)) p10⟩
      replace hc5 := hid hc5
      obtain rfl : b = true := (hb5 t htf.out).2 hug.out
      clear hb5
      dsimp only
      clear hHeld
      refine hK.out _ _ ?hs (fun hHeld => ?_)
      case hs => (first | exact hS5 | trivial | ((try dsimp only); go_keep) | ((try dsimp only); simp [*, World.cell?_alloc_some, World.cell?_setCell_far, World.cell?_setCell_other]))
      clear hK K
      try simp only [Act.put, List.setIfInBounds_toArray, List.set_cons_zero, List.set_cons_succ]
      refine wpAnyH_take (i := 9) (v := ?vvwc9) rfl (by kernel_rfl) (by kernel_rfl) (by kernel_rfl) (fun _ _ _ h => h) (Or.inl ⟨by rfl, ?yywc9⟩) (by assumption) ?rrwc9
      case yywc9 => (intro w' hSw; (try dsimp only at hSw); go_simp; (try with_reducible rfl))
      try simp only [Act.put, List.setIfInBounds_toArray, List.set_cons_zero, List.set_cons_succ]
      refine wpAnyH_done (by kernel_rfl) ?_ _
      clear hHeld
      clear p1 p2 p3 p4 p5 p6 p7 p8 p9 p10 hS0 hS5
      have hC5 : Hid (Ch (fun _ => False) W4 w5) := (hC.out.trans (Ch.drew (fun _ => False) wr) (fun _ h => h.elim)).trans hc5.out (fun _ h => h.elim)
      go_wp2
      go_roundg (out.length - i)
      case measure => omega
      case rel => exact ⟨i + 1, by simp, by omega, by omega, hC5⟩
    · obtain rfl : i = out.length := by omega
      have i1 : ¬ (out.length : Int) < (out.length : Int) := by omega
      go_wp2
      go_ret
      exact ⟨rfl, hcw.out.trans hC.out (fun _ h => h.elim)⟩
end Go.Proofs.YtficijneelpmcaaGreat
