/-
  What is reached; where what is kept comes to lie (plain).
-/
import Derived.Test.YtidgppghakmkaaaHb
set_option linter.unusedVariables false
set_option linter.unusedSimpArgs false
namespace Go.Proofs.Ytidgppghakmkaaa
namespace Hp

/-- What is reached from roots. -/
inductive Rch (T : List Th) (ro : List Cl) : Nat → Prop
  | root {c : Cl} {i : Nat} : c ∈ ro → c.ptr = true → Is T c.n i → Rch T ro i
  | step {i j k : Nat} {t : Th} : Rch T ro i → T[i]? = some t → j < t.l.length → (clOf T i j).ptr = true → Is T (clOf T i j).n k → Rch T ro k
theorem marked_reached {T : List Th} {ro : List Cl} {p : Nat → Option Nat} (h : Inv T (Rch T ro) ⟨p, []⟩) (hr : ∀ c ∈ ro, c.ptr = true → ∀ i, Is T c.n i → p i ≠ none) (i : Nat) : p i ≠ none ↔ Rch T ro i := by
  refine ⟨fun hi => ?_, fun hi => ?_⟩
  · obtain ⟨x, hx⟩ := Option.ne_none_iff_exists'.1 hi
    obtain ⟨_, _, _, hR⟩ := h.mr i x hx
    exact hR
  · induction hi with
    | root hc hp hi => exact hr _ hc hp _ hi
    | step _ ht hj hp hk ih => exact h.closed ih ht hj hp hk
theorem inv_none (T : List Th) (R : Nat → Prop) : Inv T R ⟨fun _ => none, []⟩ :=
  ⟨List.nodup_nil, fun i hi => by simp at hi, fun i q h => by simp at h, fun i q h => by simp at h, fun i q h => by simp at h, fun a b r pre h => by simp at h⟩

/-- Those of a list that are kept. -/
def keepL {α : Type} (m : Nat → Bool) : Nat → List α → List α
  | _, [] => []
  | i, t :: r => if m i then t :: keepL m (i + 1) r else keepL m (i + 1) r
theorem keepL_append {α : Type} (m : Nat → Bool) (i : Nat) (a b : List α) : keepL m i (a ++ b) = keepL m i a ++ keepL m (i + a.length) b := by
  induction a generalizing i with
  | nil => simp [keepL]
  | cons x r ih =>
    simp only [List.cons_append, keepL, ih, List.length_cons]
    rw [show i + 1 + r.length = i + (r.length + 1) by omega]
    split <;> rfl
theorem keepL_map {α β : Type} (f : α → β) (m : Nat → Bool) (i : Nat) (l : List α) : keepL m i (l.map f) = (keepL m i l).map f := by
  induction l generalizing i with
  | nil => rfl
  | cons x r ih =>
    simp only [List.map_cons, keepL, ih]
    split <;> rfl
/-- How many are kept ahead of the i-th; how many cells these take. -/
def rank (m : Nat → Bool) (T : List Th) (i : Nat) : Nat := (keepL m 0 (T.take i)).length
def nad (m : Nat → Bool) (T : List Th) (i : Nat) : Nat := used (keepL m 0 (T.take i))
theorem used_append (a b : List Th) : used (a ++ b) = used a + used b := by simp [used]
theorem take_one {T : List Th} {i : Nat} {t : Th} (h : T[i]? = some t) : T.take (i + 1) = T.take i ++ [t] ∧ (T.take i).length = i := by
  obtain ⟨hi, rfl⟩ := List.getElem?_eq_some_iff.1 h
  refine ⟨?_, by simp; omega⟩
  rw [List.take_add_one, List.getElem?_eq_getElem hi]
  rfl
theorem nad_succ {m : Nat → Bool} {T : List Th} {i : Nat} {t : Th} (h : T[i]? = some t) : nad m T (i + 1) = nad m T i + (if m i then t.size else 0) := by
  obtain ⟨h1, h2⟩ := take_one h
  unfold nad
  rw [h1, keepL_append, used_append, h2]
  simp only [Nat.zero_add, keepL]
  split <;> simp [used]
theorem rank_succ {m : Nat → Bool} {T : List Th} {i : Nat} {t : Th} (h : T[i]? = some t) : rank m T (i + 1) = rank m T i + (if m i then 1 else 0) := by
  obtain ⟨h1, h2⟩ := take_one h
  unfold rank
  rw [h1, keepL_append, List.length_append, h2]
  simp only [Nat.zero_add, keepL]
  split <;> simp
theorem nad_le (m : Nat → Bool) (T : List Th) : ∀ i, i ≤ T.length → nad m T i ≤ ad T i
  | 0, _ => by simp [nad, keepL, used]
  | i + 1, hi => by
    have h : T[i]? = some T[i] := List.getElem?_eq_getElem (by omega)
    have := nad_le m T i (by omega)
    rw [nad_succ h, ad_succ h]
    split <;> omega
theorem nad_mono (m : Nat → Bool) (T : List Th) {i j : Nat} (h : i ≤ j) (hj : j ≤ T.length) : nad m T i ≤ nad m T j := by
  induction j with
  | zero => obtain rfl : i = 0 := by omega
            exact Nat.le_refl _
  | succ j ih =>
    by_cases e : i = j + 1
    · subst e; exact Nat.le_refl _
    · have ht : T[j]? = some T[j] := List.getElem?_eq_getElem (by omega)
      have := ih (by omega) (by omega)
      rw [nad_succ ht]
      omega
theorem keep_of {m : Nat → Bool} {α : Type} {T : List α} {s r : Nat} {u : α} (h : (keepL m s T)[r]? = some u) : ∃ i, T[i]? = some u ∧ m (s + i) = true ∧ r = (keepL m s (T.take i)).length := by
  induction T generalizing s r with
  | nil => simp [keepL] at h
  | cons x l ih =>
    unfold keepL at h
    by_cases e : m s = true
    · rw [if_pos e] at h
      cases r with
      | zero =>
        obtain rfl : x = u := by simpa using h
        exact ⟨0, rfl, e, rfl⟩
      | succ r =>
        obtain ⟨i, h1, h2, h3⟩ := ih (by simpa using h)
        refine ⟨i + 1, by simpa using h1, by rw [← h2]; congr 1; omega, ?_⟩
        simp [keepL, e, h3]
    · rw [if_neg e] at h
      obtain ⟨i, h1, h2, h3⟩ := ih h
      refine ⟨i + 1, by simpa using h1, by rw [← h2]; congr 1; omega, ?_⟩
      simp [keepL, e, h3]
/-- The kept ones in their order. -/
theorem keep_at {m : Nat → Bool} {T : List Th} {i : Nat} {t : Th} (h : T[i]? = some t) (hm : m i = true) : (keepL m 0 T)[rank m T i]? = some t := by
  obtain ⟨h1, h2⟩ := take_one h
  have e : keepL m 0 T = keepL m 0 (T.take (i + 1) ++ T.drop (i + 1)) := by rw [List.take_append_drop]
  rw [e, keepL_append, h1, keepL_append, h2]
  simp only [Nat.zero_add, keepL, hm, if_true]
  rw [List.append_assoc, List.getElem?_append_right (by unfold rank; exact Nat.le_refl _)]
  unfold rank
  simp
theorem nad_ad {m : Nat → Bool} {T : List Th} {i : Nat} (hi : i ≤ T.length) : nad m T i = ad (keepL m 0 T) (rank m T i) := by
  have e : T = T.take i ++ T.drop i := (List.take_append_drop _ _).symm
  unfold ad
  conv => rhs; rw [show keepL m 0 T = keepL m 0 (T.take i) ++ keepL m (0 + (T.take i).length) (T.drop i) by rw [← keepL_append, ← e]]
  unfold rank nad used
  rw [List.take_left]
theorem nad_all (m : Nat → Bool) (T : List Th) : nad m T T.length = used (keepL m 0 T) := by simp [nad]

/-- The number of the thing at an address; the new address of an old one. -/
def idx (T : List Th) (a : Int) : Option Nat := (List.range T.length).find? fun i => decide (a = (ad T i : Nat))
theorem idx_is {T : List Th} {a : Int} {i : Nat} (h : Is T a i) : idx T a = some i := by
  obtain ⟨t, ht, ha⟩ := h
  have hl := (List.getElem?_eq_some_iff.1 ht).1
  unfold idx
  cases e : (List.range T.length).find? fun i => decide (a = (ad T i : Nat)) with
  | none =>
    have := List.find?_eq_none.1 e i (List.mem_range.2 hl)
    simp [ha] at this
  | some j =>
    have hj := List.find?_some e
    have hjl := List.mem_range.1 (List.mem_of_find?_eq_some e)
    simp at hj
    have := (pos_inj (k := 0) (m := 0) ht (List.getElem?_eq_getElem hjl) (by omega) (by omega) (by omega)).1
    rw [this]
theorem idx_some {T : List Th} {a : Int} {i : Nat} (h : idx T a = some i) : Is T a i := by
  have hj := List.find?_some h
  have hjl := List.mem_range.1 (List.mem_of_find?_eq_some h)
  simp at hj
  exact ⟨_, List.getElem?_eq_getElem hjl, hj⟩
def new (m : Nat → Bool) (T : List Th) (a : Int) : Int := match idx T a with
  | some i => (nad m T i : Nat)
  | none => 0
def newC (m : Nat → Bool) (T : List Th) (c : Cl) : Cl := if c.ptr then ⟨true, new m T c.n⟩ else c
def newT (m : Nat → Bool) (T : List Th) (t : Th) : Th := { t with l := t.l.map (newC m T) }
/-- The things after Collect; the roots. -/
def coll (m : Nat → Bool) (T : List Th) : List Th := (keepL m 0 T).map (newT m T)
theorem newT_size (m : Nat → Bool) (T : List Th) (t : Th) : (newT m T t).size = t.size := by simp [newT, Th.size]
theorem ad_map {f : Th → Th} (hf : ∀ t, (f t).size = t.size) (T : List Th) (i : Nat) : ad (T.map f) i = ad T i := by
  unfold ad
  rw [← List.map_take, List.map_map]
  congr 1
  exact List.map_congr_left (fun t _ => hf t)
theorem used_map {f : Th → Th} (hf : ∀ t, (f t).size = t.size) (T : List Th) : used (T.map f) = used T := by
  unfold used
  rw [List.map_map]
  congr 1
  exact List.map_congr_left (fun t _ => hf t)
theorem coll_at {m : Nat → Bool} {T : List Th} {i : Nat} {t : Th} (h : T[i]? = some t) (hm : m i = true) : (coll m T)[rank m T i]? = some (newT m T t) ∧ ad (coll m T) (rank m T i) = nad m T i := by
  have hi := (List.getElem?_eq_some_iff.1 h).1
  refine ⟨?_, ?_⟩
  · unfold coll
    rw [List.getElem?_map, keep_at h hm]
    rfl
  · unfold coll
    rw [ad_map (newT_size m T), ← nad_ad (by omega)]
theorem coll_of {m : Nat → Bool} {T : List Th} {r : Nat} {u : Th} (h : (coll m T)[r]? = some u) : ∃ i t, T[i]? = some t ∧ m i = true ∧ u = newT m T t ∧ r = rank m T i := by
  unfold coll at h
  rw [List.getElem?_map] at h
  cases e : (keepL m 0 T)[r]? with
  | none => rw [e] at h; cases h
  | some t =>
    rw [e] at h
    obtain ⟨i, h1, h2, h3⟩ := keep_of e
    exact ⟨i, t, h1, by simpa using h2, (Option.some.inj h).symm, h3⟩
theorem new_is {m : Nat → Bool} {T : List Th} {a : Int} {i : Nat} (h : Is T a i) (hm : m i = true) : Is (coll m T) (new m T a) (rank m T i) := by
  obtain ⟨t, ht, ha⟩ := id h
  obtain ⟨h1, h2⟩ := coll_at ht hm
  refine ⟨_, h1, ?_⟩
  unfold new
  rw [idx_is h, h2]
theorem coll_used (m : Nat → Bool) (T : List Th) : used (coll m T) = nad m T T.length := by
  unfold coll
  rw [used_map (newT_size m T), nad_all]
end Hp
end Go.Proofs.Ytidgppghakmkaaa
