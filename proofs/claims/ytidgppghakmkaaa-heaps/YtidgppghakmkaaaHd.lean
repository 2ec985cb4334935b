/-
  Collect behind the marking: where each is to lie, the references, the sliding (plain).
-/
import Derived.Test.YtidgppghakmkaaaHc
set_option linter.unusedVariables false
set_option linter.unusedSimpArgs false
namespace Go.Proofs.Ytidgppghakmkaaa
namespace Hp

/-- The cells while nothing is being collected. -/
def g0 (T : List Th) : Nat → Nat → PC
  | i, 0 => headC T i 2 0
  | i, j + 1 => field (clOf T i j) (clOf T i j).n
theorem gM_none (T : List Th) (i k : Nat) : gM T ⟨fun _ => none, []⟩ i k = g0 T i k := by cases k <;> rfl

variable {T : List Th} {m : Nat → Bool}

/-- Settled up to the thing a. -/
def gS (m : Nat → Bool) (T : List Th) (a : Nat) : Nat → Nat → PC
  | i, 0 => headC T i (if m i then 3 else 2) (if m i then (if i < a then (nad m T i : Nat) else ((thOf T i).l.length : Nat)) else 0)
  | i, j + 1 => field (clOf T i j) (clOf T i j).n
theorem gM_settle {p : Nat → Option Nat} {R : Nat → Prop} (h : Inv T R ⟨p, []⟩) (hm : ∀ i, m i = true ↔ p i ≠ none) (i k : Nat) (t : Th) (ht : T[i]? = some t) : gM T ⟨p, []⟩ i k = gS m T 0 i k := by
  cases k with
  | succ j => rfl
  | zero =>
    cases hp : p i with
    | none =>
      have : m i = false := by
        cases e : m i with
        | false => rfl
        | true => exact absurd hp ((hm i).1 e)
      simp [gM, gS, headC, hp, this]
    | some q =>
      have e : m i = true := (hm i).2 (by rw [hp]; simp)
      obtain rfl := h.bl i q hp (by simp) t ht
      simp [gM, gS, headC, hp, e, thOf_at ht]
theorem gS_step {a : Nat} (ha : m a = true) (i k : Nat) : upd2 (gS m T a) a 0 (headC T a 3 (nad m T a : Nat)) i k = gS m T (a + 1) i k := by
  cases k with
  | succ j =>
    unfold upd2
    rw [if_neg (fun h => by cases h.2)]
    rfl
  | zero =>
    unfold upd2
    by_cases e : i = a
    · subst e
      simp [gS, ha]
    · have : (i < a + 1) ↔ (i < a) := by omega
      simp [gS, e, this]
theorem gS_skip {a : Nat} (ha : m a = false) (i k : Nat) : gS m T a i k = gS m T (a + 1) i k := by
  cases k with
  | succ j => rfl
  | zero =>
    by_cases e : i = a
    · subst e
      simp [gS, ha]
    · have : (i < a + 1) ↔ (i < a) := by omega
      simp [gS, this]
/-- The references are new up to field b of the thing a. -/
def gR (m : Nat → Bool) (T : List Th) (a b : Nat) : Nat → Nat → PC
  | i, 0 => headC T i (if m i then 3 else 2) (if m i then (nad m T i : Nat) else 0)
  | i, j + 1 => field (clOf T i j) (if m i = true ∧ (i < a ∨ (i = a ∧ j < b)) then (newC m T (clOf T i j)).n else (clOf T i j).n)
theorem gS_refer (i k : Nat) (t : Th) (ht : T[i]? = some t) : gS m T T.length i k = gR m T 0 0 i k := by
  have hi := (List.getElem?_eq_some_iff.1 ht).1
  cases k with
  | zero => simp [gS, gR, hi]
  | succ j => simp [gS, gR]
theorem gR_step {a b : Nat} (ha : m a = true) (i k : Nat) : upd2 (gR m T a b) a (b + 1) (field (clOf T a b) (newC m T (clOf T a b)).n) i k = gR m T a (b + 1) i k := by
  cases k with
  | zero =>
    unfold upd2
    rw [if_neg (fun h => by cases h.2)]
    rfl
  | succ j =>
    unfold upd2
    by_cases e : i = a ∧ j + 1 = b + 1
    · obtain ⟨rfl, e2⟩ := e
      obtain rfl : j = b := by omega
      simp [gR, ha]
    · rw [if_neg e]
      have : (i < a ∨ (i = a ∧ j < b + 1)) ↔ (i < a ∨ (i = a ∧ j < b)) := by omega
      simp [gR, this]
theorem gR_same {a b : Nat} (hn : (clOf T a b).ptr = false) (i k : Nat) : gR m T a b i k = gR m T a (b + 1) i k := by
  cases k with
  | zero => rfl
  | succ j =>
    by_cases e : i = a ∧ j = b
    · obtain ⟨rfl, rfl⟩ := e
      simp [gR, newC, hn]
    · have : (i < a ∨ (i = a ∧ j < b + 1)) ↔ (i < a ∨ (i = a ∧ j < b)) := by omega
      simp [gR, this]
theorem gR_next {a : Nat} {t : Th} (ht : T[a]? = some t) (i k : Nat) (u : Th) (hu : T[i]? = some u) (hk : k ≤ u.l.length) : gR m T a t.l.length i k = gR m T (a + 1) 0 i k := by
  cases k with
  | zero => rfl
  | succ j =>
    have : (i < a ∨ (i = a ∧ j < t.l.length)) ↔ (i < a + 1 ∨ (i = a + 1 ∧ j < 0)) := by
      refine ⟨fun h => by omega, fun h => ?_⟩
      rcases Nat.lt_or_ge i a with h2 | h2
      · exact .inl h2
      · obtain rfl : i = a := by omega
        obtain rfl := Option.some.inj (ht.symm.trans hu)
        exact .inr ⟨rfl, by omega⟩
    simp [gR, this]
theorem gR_skip {a : Nat} (ha : m a = false) (i k : Nat) : gR m T a 0 i k = gR m T (a + 1) 0 i k := by
  cases k with
  | zero => rfl
  | succ j =>
    by_cases e : i = a
    · subst e
      simp [gR, ha]
    · have : (i < a + 1) ↔ (i < a) := by omega
      simp [gR, this]
/-- What a thing that is kept says in the end. -/
def fin (m : Nat → Bool) (T : List Th) (i : Nat) : Nat → PC
  | 0 => headC T i 2 0
  | j + 1 => field (newC m T (clOf T i j)) (newC m T (clOf T i j)).n
theorem gR_fin {a i j : Nat} (h : m i = true) (hi : i < a) : gR m T a 0 i (j + 1) = fin m T i (j + 1) := by
  have : (newC m T (clOf T i j)).ptr = (clOf T i j).ptr := by
    unfold newC
    split
    · rename_i h; rw [h]
    · rfl
  simp [gR, fin, h, hi, field, this]
/-- While things slide: those ahead of a lie where they are to, the others where they lay. -/
structure Sl (m : Nat → Bool) (T : List Th) (f : Nat → PC) (a : Nat) : Prop where
  ahead : ∀ i t, T[i]? = some t → i < a → m i = true → ∀ k, k ≤ t.l.length → f (nad m T i + k) = fin m T i k
  rest : ∀ i t, T[i]? = some t → a ≤ i → ∀ k, k ≤ t.l.length → f (ad T i + k) = gR m T T.length 0 i k
theorem Sl.start {f : Nat → PC} (h : Lay T f (gR m T T.length 0)) : Sl m T f 0 := ⟨fun i t _ h => by omega, fun i t ht _ k hk => h i t ht k hk⟩
theorem Sl.skip {f : Nat → PC} {a : Nat} (h : Sl m T f a) (ha : m a = false) : Sl m T f (a + 1) :=
  ⟨fun i t ht hi hm k hk => h.ahead i t ht (by rcases Nat.lt_or_ge i a with h2 | h2; exact h2; obtain rfl : i = a := by omega
                                               rw [ha] at hm; cases hm) hm k hk, fun i t ht hi k hk => h.rest i t ht (by omega) k hk⟩
/-- So many cells from one place to another. -/
def mv (f : Nat → PC) (src dst n : Nat) : Nat → PC := fun x => if dst ≤ x ∧ x < dst + n then f (src + (x - dst)) else f x
theorem Sl.step {f : Nat → PC} {a : Nat} {t : Th} (h : Sl m T f a) (ht : T[a]? = some t) (ha : m a = true) : Sl m T (mv (upd f (ad T a) (headC T a 2 0)) (ad T a) (nad m T a) t.size) (a + 1) := by
  have hal := (List.getElem?_eq_some_iff.1 ht).1
  have hna := nad_le m T a (by omega)
  have hs : t.size = t.l.length + 1 := rfl
  refine ⟨fun i u hu hi hm k hk => ?_, fun i u hu hi k hk => ?_⟩
  · unfold mv
    by_cases e : i = a
    · subst e
      obtain rfl := Option.some.inj (ht.symm.trans hu)
      rw [if_pos ⟨by omega, by omega⟩, show ad T i + (nad m T i + k - nad m T i) = ad T i + k by omega]
      unfold upd
      cases k with
      | zero => rw [if_pos (by omega)]; rfl
      | succ j =>
        rw [if_neg (by omega), h.rest i t ht (Nat.le_refl _) (j + 1) hk]
        exact gR_fin ha hal
    · have hia : i < a := by omega
      have hle : nad m T i + u.size ≤ nad m T a := by
        have h1 := nad_succ (m := m) hu
        rw [hm, if_pos rfl] at h1
        rw [← h1]
        exact nad_mono m T (by omega) (by omega)
      have hu' : u.size = u.l.length + 1 := rfl
      rw [if_neg (by omega)]
      unfold upd
      rw [if_neg (by omega)]
      exact h.ahead i u hu hia hm k hk
  · have h2 := ad_lt ht (show a < i by omega)
    unfold mv
    rw [if_neg (by omega)]
    unfold upd
    rw [if_neg (by omega)]
    exact h.rest i u hu (by omega) k hk
theorem Sl.done {f : Nat → PC} (h : Sl m T f T.length) : Lay (coll m T) f (g0 (coll m T)) := by
  intro r u hu k hk
  obtain ⟨i, t, ht, hm, rfl, rfl⟩ := coll_of hu
  obtain ⟨h1, h2⟩ := coll_at ht hm
  have hi := (List.getElem?_eq_some_iff.1 ht).1
  have hk' : k ≤ t.l.length := by simpa [newT] using hk
  rw [h2, h.ahead i t ht hi hm k hk']
  cases k with
  | zero => simp [fin, g0, headC, thOf_at h1, thOf_at ht, newT]
  | succ j =>
    have : clOf (coll m T) (rank m T i) j = newC m T (clOf T i j) := by
      rw [clOf_at h1, clOf_at ht]
      have hj : j < t.l.length := by omega
      simp [newT, List.getD, hj]
    simp [fin, g0, this]
end Hp
end Go.Proofs.Ytidgppghakmkaaa
