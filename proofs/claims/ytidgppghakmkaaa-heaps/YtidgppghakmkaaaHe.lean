/-
  Marking by turned references: the step into a thing (plain).
-/
import Derived.Test.YtidgppghakmkaaaHd
set_option linter.unusedVariables false
set_option linter.unusedSimpArgs false
namespace Go.Proofs.Ytidgppghakmkaaa
namespace Hp
variable {T : List Th} {R : Nat → Prop} {p : Nat → Option Nat} {c k q : Nat} {r : List Nat}

theorem setP_set (p : Nat → Option Nat) (c : Nat) (a b : Option Nat) : setP (setP p c a) c b = setP p c b := by
  funext x
  unfold setP
  split <;> rfl
theorem Inv.push2 (h : Inv T R ⟨p, c :: r⟩) (hq : p c = some q) (hk : p k = none) {t u : Th} (htc : T[c]? = some u) (hl : q < u.l.length) (ht : T[k]? = some t) (hpt : (clOf T c q).ptr = true) (hn : (clOf T c q).n = (ad T k : Nat)) (hR : R k) : Inv T R (Hp.push (setP p c (some (q + 1))) c k r) := by
  have hkl : k ∉ c :: r := fun e => by
    obtain ⟨_, x, _, h2, _⟩ := h.ms k e
    rw [show (⟨p, c :: r⟩ : Mk).p k = p k from rfl, hk] at h2
    cases h2
  have hkc : k ≠ c := fun e => hkl (by rw [e]; exact List.mem_cons_self)
  have hc : c ∉ r := (List.nodup_cons.1 h.nd).1
  have hne : ∀ x ∈ c :: r, x ≠ k := fun x hx e => hkl (e ▸ hx)
  have ek : setP (setP p c (some (q + 1))) k (some 0) k = some 0 := setP_same _ _ _
  have ec : setP (setP p c (some (q + 1))) k (some 0) c = some (q + 1) := by rw [setP_other _ _ (Ne.symm hkc), setP_same]
  have eo : ∀ x, x ≠ k → x ≠ c → setP (setP p c (some (q + 1))) k (some 0) x = p x := fun x h1 h2 => by rw [setP_other _ _ h1, setP_other _ _ h2]
  have hnn : ∀ x, p x ≠ none → setP (setP p c (some (q + 1))) k (some 0) x ≠ none := fun x hx => by
    by_cases e : x = k
    · subst e; rw [ek]; simp
    · by_cases e2 : x = c
      · subst e2; rw [ec]; simp
      · rw [eo x e e2]; exact hx
  have hk1 : ∀ k', Is T (clOf T c q).n k' → k' = k := fun k' hk' => hk'.one ⟨t, ht, hn⟩
  refine ⟨List.nodup_cons.2 ⟨hkl, h.nd⟩, fun i hi => ?_, fun i x hx => ?_, fun i x hx hni v hv => ?_, fun i x hx j hj hpt' k' hk' => ?_, fun a b r' pre he => ?_⟩
  · rcases List.mem_cons.1 hi with e | e
    · subst e; exact ⟨t, 0, ht, ek, by omega⟩
    · by_cases e2 : i = c
      · subst e2; exact ⟨u, q + 1, htc, ec, by omega⟩
      · obtain ⟨v, x, h1, h2, h3⟩ := h.ms i e
        exact ⟨v, x, h1, (eo i (hne i e) e2).trans h2, h3⟩
  · by_cases e : i = k
    · subst e
      obtain rfl : 0 = x := Option.some.inj (ek.symm.trans hx)
      exact ⟨t, ht, by omega, hR⟩
    · by_cases e2 : i = c
      · subst e2
        obtain rfl : q + 1 = x := Option.some.inj (ec.symm.trans hx)
        obtain ⟨v, hv, _, hr⟩ := h.mr i q hq
        obtain rfl := Option.some.inj (htc.symm.trans hv)
        exact ⟨u, htc, by omega, hr⟩
      · exact h.mr i x ((eo i e e2).symm.trans hx)
  · have e : i ≠ k := fun e => hni (by rw [e]; exact List.mem_cons_self)
    have e2 : i ≠ c := fun e => hni (by rw [e]; exact List.mem_cons_of_mem _ List.mem_cons_self)
    exact h.bl i x ((eo i e e2).symm.trans hx) (fun h2 => hni (List.mem_cons_of_mem _ h2)) v hv
  · by_cases e : i = k
    · subst e
      obtain rfl : 0 = x := Option.some.inj (ek.symm.trans hx)
      omega
    · by_cases e2 : i = c
      · subst e2
        obtain rfl : q + 1 = x := Option.some.inj (ec.symm.trans hx)
        by_cases e3 : j = q
        · subst e3
          rw [hk1 k' hk']
          show setP (setP p i (some (j + 1))) k (some 0) k ≠ none
          rw [ek]; simp
        · exact hnn k' (h.go i q hq j (by omega) hpt' k' hk')
      · exact hnn k' (h.go i x ((eo i e e2).symm.trans hx) j hj hpt' k' hk')
  · cases pre with
    | nil =>
      have he' : k :: c :: r = a :: b :: r' := he
      obtain ⟨rfl, e2⟩ := List.cons.inj he'
      obtain ⟨rfl, rfl⟩ := List.cons.inj e2
      exact ⟨q, ec, hpt, hn⟩
    | cons y ys =>
      have he' : k :: c :: r = y :: (ys ++ a :: b :: r') := he
      obtain ⟨rfl, e2⟩ := List.cons.inj he'
      obtain ⟨z, h1, h2, h3⟩ := h.ch a b r' ys e2
      have hb : b ∈ c :: r := by rw [e2]; simp
      have hbc : b ≠ c := fun e => by
        subst e
        cases ys with
        | nil =>
          obtain ⟨rfl, e3⟩ := List.cons.inj e2
          exact hc (by rw [e3]; exact List.mem_cons_self)
        | cons y2 ys2 =>
          obtain ⟨rfl, e3⟩ := List.cons.inj e2
          exact hc (by rw [e3]; simp)
      exact ⟨z, (eo b (hne b hb) hbc).trans h1, h2, h3⟩
/-- How much is left to be done: what is not marked counts twice. -/
def left (T : List Th) (s : Mk) : Nat := 2 * ((List.range T.length).filter fun i => decide (s.p i = none)).length + s.st.length
theorem filter_set {p : Nat → Option Nat} {k n : Nat} (hk : p k = none) (hn : k < n) (v : Nat) : ((List.range n).filter fun i => decide (setP p k (some v) i = none)).length + 1 = ((List.range n).filter fun i => decide (p i = none)).length := by
  induction n with
  | zero => omega
  | succ n ih =>
    rw [List.range_succ, List.filter_append, List.filter_append, List.length_append, List.length_append]
    by_cases e : k = n
    · subst e
      have e1 : (List.range k).filter (fun i => decide (setP p k (some v) i = none)) = (List.range k).filter (fun i => decide (p i = none)) := by
        apply List.filter_congr
        intro x hx
        have := List.mem_range.1 hx
        rw [setP_other _ _ (by omega)]
      rw [e1]
      simp [setP_same, hk]
    · have := ih (by omega)
      have e2 : setP p k (some v) n = p n := setP_other _ _ (by omega)
      simp only [List.filter_cons, List.filter_nil, e2]
      omega
theorem filter_same {p : Nat → Option Nat} {c n q : Nat} (hq : p c = some q) (v : Nat) : ((List.range n).filter fun i => decide (setP p c (some v) i = none)) = ((List.range n).filter fun i => decide (p i = none)) := by
  apply List.filter_congr
  intro x _
  by_cases e : x = c
  · subst e; simp [setP_same, hq]
  · rw [setP_other _ _ e]
end Hp
end Go.Proofs.Ytidgppghakmkaaa
