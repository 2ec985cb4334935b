
set_option linter.unusedVariables false
set_option linter.unusedSimpArgs false
/-
  Things in a heap, one right behind the other: addresses, places, what lies there (plain).
-/
namespace Go.Proofs.Ytidgppghakmkaaa
namespace Hp

/-- A field: a number, or the address of a thing. -/
structure Cl where
  ptr : Bool
  n : Int
deriving DecidableEq
structure Th where
  kind : Int
  tag : Int
  l : List Cl
/-- A cell of the program's. -/
structure PC where
  is : Int
  kind : Int
  tag : Int
  size : Int
  n : Int
def Th.size (t : Th) : Nat := t.l.length + 1
/-- The address of the i-th thing. -/
def ad (T : List Th) (i : Nat) : Nat := ((T.take i).map Th.size).sum
def used (T : List Th) : Nat := (T.map Th.size).sum

theorem ad_zero (T : List Th) : ad T 0 = 0 := by simp [ad]
theorem ad_succ {T : List Th} {i : Nat} {t : Th} (h : T[i]? = some t) : ad T (i + 1) = ad T i + t.size := by
  obtain ⟨hi, rfl⟩ := List.getElem?_eq_some_iff.1 h
  unfold ad
  rw [List.take_add_one, List.getElem?_eq_getElem hi, List.map_append, List.sum_append]
  rfl
theorem ad_all (T : List Th) : ad T T.length = used T := by simp [ad, used]
theorem ad_mono (T : List Th) {i j : Nat} (h : i ≤ j) : ad T i ≤ ad T j := by
  induction j with
  | zero => obtain rfl : i = 0 := by omega
            exact Nat.le_refl _
  | succ j ih =>
    by_cases e : i = j + 1
    · subst e; exact Nat.le_refl _
    · refine Nat.le_trans (ih (by omega)) ?_
      cases ht : T[j]? with
      | some t => rw [ad_succ ht]; omega
      | none =>
        have hl : T.length ≤ j := List.getElem?_eq_none_iff.1 ht
        unfold ad
        rw [List.take_of_length_le hl, List.take_of_length_le (by omega)]
        exact Nat.le_refl _
theorem ad_lt {T : List Th} {i j : Nat} {t : Th} (h : T[i]? = some t) (hij : i < j) : ad T i + t.size ≤ ad T j := by
  rw [← ad_succ h]
  exact ad_mono T hij
theorem ad_used {T : List Th} {i : Nat} {t : Th} (h : T[i]? = some t) : ad T i + t.size ≤ used T := by
  have hi := (List.getElem?_eq_some_iff.1 h).1
  rw [← ad_all]
  exact ad_lt h hi
/-- Each place is one thing's alone. -/
theorem pos_inj {T : List Th} {i j k m : Nat} {t u : Th} (hi : T[i]? = some t) (hj : T[j]? = some u) (hk : k ≤ t.l.length) (hm : m ≤ u.l.length) (e : ad T i + k = ad T j + m) : i = j ∧ k = m := by
  rcases Nat.lt_trichotomy i j with h | h | h
  · have := ad_lt hi h
    unfold Th.size at this
    omega
  · subst h; exact ⟨rfl, by omega⟩
  · have := ad_lt hj h
    unfold Th.size at this
    omega
/-- The thing at an address. -/
def Is (T : List Th) (a : Int) (i : Nat) : Prop := ∃ t, T[i]? = some t ∧ a = (ad T i : Nat)
theorem Is.one {T : List Th} {a : Int} {i j : Nat} (h : Is T a i) (h2 : Is T a j) : i = j := by
  obtain ⟨t, ht, e⟩ := h
  obtain ⟨u, hu, e2⟩ := h2
  exact (pos_inj (k := 0) (m := 0) ht hu (by omega) (by omega) (by omega)).1

/-- What lies in the cells, said by things and their places: 0 the first cell, j + 1 field j. -/
def Lay (T : List Th) (f : Nat → PC) (g : Nat → Nat → PC) : Prop := ∀ i t, T[i]? = some t → ∀ k, k ≤ t.l.length → f (ad T i + k) = g i k
def upd (f : Nat → PC) (a : Nat) (v : PC) : Nat → PC := fun x => if x = a then v else f x
def upd2 (g : Nat → Nat → PC) (i k : Nat) (v : PC) : Nat → Nat → PC := fun x y => if x = i ∧ y = k then v else g x y
theorem Lay.upd {T : List Th} {f : Nat → PC} {g : Nat → Nat → PC} (h : Lay T f g) {i k : Nat} {t : Th} (hi : T[i]? = some t) (hk : k ≤ t.l.length) (v : PC) : Lay T (upd f (ad T i + k) v) (upd2 g i k v) := by
  intro j u hj m hm
  unfold Hp.upd upd2
  by_cases e : ad T j + m = ad T i + k
  · obtain ⟨rfl, rfl⟩ := pos_inj hj hi hm hk e
    simp
  · rw [if_neg e, if_neg (fun h2 => e (by rw [h2.1, h2.2]))]
    exact h j u hj m hm
theorem Lay.as {T : List Th} {f : Nat → PC} {g g' : Nat → Nat → PC} (h : Lay T f g) (e : ∀ i t, T[i]? = some t → ∀ k, k ≤ t.l.length → g i k = g' i k) : Lay T f g' := fun i t hi k hk => (h i t hi k hk).trans (e i t hi k hk)

/-- Marking: how many fields of a thing were gone through, of those that are marked; the things on the way, the last one first. -/
structure Mk where
  p : Nat → Option Nat
  st : List Nat
/-- Where one came from. -/
def fromOf (T : List Th) : List Nat → Int
  | [] => -1
  | y :: _ => (ad T y : Nat)
/-- The fields that refer to where one came from. -/
def ov (T : List Th) (p : Nat → Option Nat) : List Nat → Nat → Nat → Option Int
  | [], _, _ => none
  | x :: r, i, j => if x = i ∧ p i = some (j + 1) then some (fromOf T r) else ov T p r i j
def clOf (T : List Th) (i j : Nat) : Cl := ((T[i]?.map Th.l).getD []).getD j ⟨false, 0⟩
def thOf (T : List Th) (i : Nat) : Th := T[i]?.getD ⟨0, 0, []⟩
def field (c : Cl) (n : Int) : PC := ⟨if c.ptr then 1 else 0, 0, 0, 0, n⟩
/-- The cells while one marks. -/
def gM (T : List Th) (s : Mk) : Nat → Nat → PC
  | i, 0 => ⟨if s.p i = none then 2 else 3, (thOf T i).kind, (thOf T i).tag, ((thOf T i).l.length : Nat), ((s.p i).getD 0 : Nat)⟩
  | i, j + 1 => field (clOf T i j) ((ov T s.p s.st.tail i j).getD (clOf T i j).n)
theorem clOf_at {T : List Th} {i j : Nat} {t : Th} (h : T[i]? = some t) : clOf T i j = t.l.getD j ⟨false, 0⟩ := by simp [clOf, h]
theorem thOf_at {T : List Th} {i : Nat} {t : Th} (h : T[i]? = some t) : thOf T i = t := by simp [thOf, h]

/-- The fields of what is kept refer to things that lie there. -/
def WF (T : List Th) : Prop := ∀ (i : Nat) (t : Th), T[i]? = some t → ∀ c ∈ t.l, c.ptr = true → ∃ k, Is T c.n k
/-- What holds while one marks. -/
structure Inv (T : List Th) (R : Nat → Prop) (s : Mk) : Prop where
  nd : s.st.Nodup
  ms : ∀ i ∈ s.st, ∃ t q, T[i]? = some t ∧ s.p i = some q ∧ q ≤ t.l.length
  mr : ∀ i q, s.p i = some q → ∃ t, T[i]? = some t ∧ q ≤ t.l.length ∧ R i
  bl : ∀ i q, s.p i = some q → i ∉ s.st → ∀ t, T[i]? = some t → q = t.l.length
  go : ∀ i q, s.p i = some q → ∀ j, j < q → (clOf T i j).ptr = true → ∀ k, Is T (clOf T i j).n k → s.p k ≠ none
  ch : ∀ a b r pre, s.st = pre ++ a :: b :: r → ∃ q, s.p b = some (q + 1) ∧ (clOf T b q).ptr = true ∧ (clOf T b q).n = (ad T a : Nat)
theorem ov_none {T : List Th} {p : Nat → Option Nat} {l : List Nat} {i : Nat} (h : i ∉ l) (j : Nat) : ov T p l i j = none := by
  induction l with
  | nil => rfl
  | cons x r ih =>
    unfold ov
    rw [if_neg (fun e => h (by rw [e.1]; exact List.mem_cons_self))]
    exact ih (fun e => h (List.mem_cons_of_mem _ e))
theorem ov_upd {T : List Th} {p : Nat → Option Nat} {l : List Nat} {c : Nat} {v : Option Nat} (h : c ∉ l) (i j : Nat) : ov T (fun x => if x = c then v else p x) l i j = ov T p l i j := by
  induction l with
  | nil => rfl
  | cons x r ih =>
    unfold ov
    rw [ih (fun e => h (List.mem_cons_of_mem _ e))]
    by_cases e : x = i
    · subst e
      have : x ≠ c := fun e => h (by rw [← e]; exact List.mem_cons_self)
      simp [this]
    · simp [e]
end Hp
end Go.Proofs.Ytidgppghakmkaaa
