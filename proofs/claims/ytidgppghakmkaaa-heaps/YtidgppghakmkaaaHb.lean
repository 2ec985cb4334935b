/-
  Marking by turned references: its steps (plain).
-/
import Derived.Test.YtidgppghakmkaaaHa
set_option linter.unusedVariables false
set_option linter.unusedSimpArgs false
namespace Go.Proofs.Ytidgppghakmkaaa
namespace Hp

def setP (p : Nat → Option Nat) (c : Nat) (v : Option Nat) : Nat → Option Nat := fun x => if x = c then v else p x
theorem setP_same (p : Nat → Option Nat) (c : Nat) (v : Option Nat) : setP p c v c = v := by simp [setP]
theorem setP_other (p : Nat → Option Nat) {c x : Nat} (v : Option Nat) (h : x ≠ c) : setP p c v x = p x := by simp [setP, h]
theorem ov_set {T : List Th} {p : Nat → Option Nat} {l : List Nat} {c : Nat} {v : Option Nat} (h : c ∉ l) (i j : Nat) : ov T (setP p c v) l i j = ov T p l i j := ov_upd h i j

theorem ov_cons (T : List Th) (p : Nat → Option Nat) (x : Nat) (r : List Nat) (i j : Nat) : ov T p (x :: r) i j = if x = i ∧ p i = some (j + 1) then some (fromOf T r) else ov T p r i j := rfl
/-- The first cell of a thing. -/
def headC (T : List Th) (i : Nat) (is n : Int) : PC := ⟨is, (thOf T i).kind, (thOf T i).tag, ((thOf T i).l.length : Nat), n⟩

variable {T : List Th} {R : Nat → Prop} {p : Nat → Option Nat} {c k q : Nat} {r : List Nat}

/-- A field is gone through. -/
def adv (p : Nat → Option Nat) (c q : Nat) (r : List Nat) : Mk := ⟨setP p c (some (q + 1)), c :: r⟩
theorem gM_adv (hq : p c = some q) (hc : c ∉ r) (i m : Nat) : upd2 (gM T ⟨p, c :: r⟩) c 0 (headC T c 3 ((q + 1 : Nat) : Int)) i m = gM T (adv p c q r) i m := by
  cases m with
  | zero =>
    unfold upd2
    by_cases e : i = c
    · subst e
      simp [gM, adv, setP_same, headC]
    · simp [gM, adv, setP_other _ _ e, e]
  | succ j =>
    unfold upd2
    rw [if_neg (fun h => by cases h.2)]
    simp only [gM, adv, List.tail_cons, ov_set hc]
/-- One goes into a thing that is not marked. -/
def push (p : Nat → Option Nat) (c k : Nat) (r : List Nat) : Mk := ⟨setP p k (some 0), k :: c :: r⟩
theorem gM_push (hq : p c = some (q + 1)) (hc : c ∉ r) (hk : p k = none) (hkc : k ≠ c) (hkr : k ∉ r) (i m : Nat) :
    upd2 (upd2 (gM T ⟨p, c :: r⟩) c (q + 1) (field (clOf T c q) (fromOf T r))) k 0 (headC T k 3 0) i m = gM T (push p c k r) i m := by
  cases m with
  | zero =>
    unfold upd2
    by_cases e : i = k
    · subst e
      simp [gM, push, setP_same, headC]
    · simp [gM, push, setP_other _ _ e, e]
  | succ j =>
    unfold upd2
    rw [if_neg (fun h => by cases h.2)]
    simp only [gM, push, List.tail_cons]
    have hkl : k ∉ c :: r := by simp [hkc, hkr]
    rw [ov_set hkl]
    by_cases e : i = c ∧ j + 1 = q + 1
    · obtain ⟨rfl, e2⟩ := e
      obtain rfl : j = q := by omega
      rw [if_pos ⟨rfl, rfl⟩, ov_cons, if_pos ⟨rfl, hq⟩]
      rfl
    · rw [if_neg e, ov_cons, if_neg (fun h => e ⟨h.1.symm, by rw [← h.1, hq] at h; have := h.2; simp at this; omega⟩)]
/-- One goes back. -/
theorem gM_pop {b : Nat} (hb : p b = some (q + 1)) (hn : (clOf T b q).n = (ad T c : Nat)) (hbr : b ∉ r) (i m : Nat) :
    upd2 (gM T ⟨p, c :: b :: r⟩) b (q + 1) (field (clOf T b q) (ad T c : Nat)) i m = gM T ⟨p, b :: r⟩ i m := by
  cases m with
  | zero =>
    unfold upd2
    rw [if_neg (fun h => by cases h.2)]
    rfl
  | succ j =>
    unfold upd2
    simp only [gM, List.tail_cons]
    by_cases e : i = b ∧ j + 1 = q + 1
    · obtain ⟨rfl, e2⟩ := e
      obtain rfl : j = q := by omega
      rw [if_pos ⟨rfl, rfl⟩, ov_none hbr, ← hn]
      rfl
    · rw [if_neg e, ov_cons, if_neg (fun h => e ⟨h.1.symm, by rw [← h.1, hb] at h; have := h.2; simp at this; omega⟩)]
theorem gM_end (i m : Nat) : gM T ⟨p, [c]⟩ i m = gM T ⟨p, []⟩ i m := by cases m <;> rfl
theorem gM_start (hk : p k = none) (i m : Nat) : upd2 (gM T ⟨p, []⟩) k 0 (headC T k 3 0) i m = gM T ⟨setP p k (some 0), [k]⟩ i m := by
  cases m with
  | zero =>
    unfold upd2
    by_cases e : i = k
    · subst e
      simp [gM, setP_same, headC]
    · simp [gM, setP_other _ _ e, e]
  | succ j =>
    unfold upd2
    rw [if_neg (fun h => by cases h.2)]
    rfl

theorem Inv.adv (h : Inv T R ⟨p, c :: r⟩) (hq : p c = some q) {t : Th} (ht : T[c]? = some t) (hl : q < t.l.length) (hf : (clOf T c q).ptr = true → ∀ k, Is T (clOf T c q).n k → p k ≠ none ∨ k = c) : Inv T R (adv p c q r) := by
  have hc : c ∉ r := (List.nodup_cons.1 h.nd).1
  have hp : ∀ x, x ≠ c → setP p c (some (q + 1)) x = p x := fun x hx => setP_other _ _ hx
  refine ⟨h.nd, fun i hi => ?_, fun i x hx => ?_, fun i x hx hn u hu => ?_, fun i x hx j hj hpt k hk => ?_, fun a b r' pre he => ?_⟩
  · by_cases e : i = c
    · subst e; exact ⟨t, q + 1, ht, setP_same _ _ _, by omega⟩
    · obtain ⟨u, x, h1, h2, h3⟩ := h.ms i hi
      exact ⟨u, x, h1, (hp i e).trans h2, h3⟩
  · by_cases e : i = c
    · subst e
      obtain rfl : q + 1 = x := Option.some.inj ((setP_same _ _ _).symm.trans hx)
      obtain ⟨u, hu, _, hr⟩ := h.mr i q hq
      obtain rfl : t = u := Option.some.inj (ht.symm.trans hu)
      exact ⟨t, ht, by omega, hr⟩
    · exact h.mr i x ((hp i e).symm.trans hx)
  · by_cases e : i = c
    · exact absurd (by rw [e]; exact List.mem_cons_self) hn
    · exact h.bl i x ((hp i e).symm.trans hx) hn u hu
  · have hnn : ∀ k, p k ≠ none → setP p c (some (q + 1)) k ≠ none := fun k hk => by
      by_cases e : k = c
      · subst e; rw [setP_same]; simp
      · rw [hp k e]; exact hk
    by_cases e : i = c
    · subst e
      obtain rfl : q + 1 = x := Option.some.inj ((setP_same _ _ _).symm.trans hx)
      by_cases e2 : j = q
      · subst e2
        rcases hf hpt k hk with h1 | h1
        · exact hnn k h1
        · subst h1; show setP p k (some (j + 1)) k ≠ none; rw [setP_same]; simp
      · exact hnn k (h.go i q hq j (by omega) hpt k hk)
    · exact hnn k (h.go i x ((hp i e).symm.trans hx) j hj hpt k hk)
  · obtain ⟨y, h1, h2, h3⟩ := h.ch a b r' pre he
    have hbc : b ≠ c := fun e => by
      subst e
      have he' : b :: r = pre ++ a :: b :: r' := he
      cases pre with
      | nil =>
        obtain ⟨rfl, e2⟩ := List.cons.inj he'
        exact hc (by rw [e2]; exact List.mem_cons_self)
      | cons y ys =>
        obtain ⟨rfl, e2⟩ := List.cons.inj he'
        exact hc (by rw [e2]; simp)
    exact ⟨y, (hp b hbc).trans h1, h2, h3⟩
theorem Inv.push (h : Inv T R ⟨p, c :: r⟩) (hq : p c = some (q + 1)) (hk : p k = none) {t : Th} (ht : T[k]? = some t) (hpt : (clOf T c q).ptr = true) (hn : (clOf T c q).n = (ad T k : Nat)) (hR : R k) : Inv T R (push p c k r) := by
  have hkl : k ∉ c :: r := fun e => by
    obtain ⟨_, x, _, h2, _⟩ := h.ms k e
    rw [show (⟨p, c :: r⟩ : Mk).p k = p k from rfl, hk] at h2
    cases h2
  have hp : ∀ x, x ≠ k → setP p k (some 0) x = p x := fun x hx => setP_other _ _ hx
  have hne : ∀ x ∈ c :: r, x ≠ k := fun x hx e => hkl (e ▸ hx)
  have hnn : ∀ x, p x ≠ none → setP p k (some 0) x ≠ none := fun x hx => by
    by_cases e : x = k
    · subst e; rw [setP_same]; simp
    · rw [hp x e]; exact hx
  refine ⟨List.nodup_cons.2 ⟨hkl, h.nd⟩, fun i hi => ?_, fun i x hx => ?_, fun i x hx hni u hu => ?_, fun i x hx j hj hpt k' hk' => ?_, fun a b r' pre he => ?_⟩
  · rcases List.mem_cons.1 hi with e | e
    · subst e; exact ⟨t, 0, ht, setP_same _ _ _, by omega⟩
    · obtain ⟨u, x, h1, h2, h3⟩ := h.ms i e
      exact ⟨u, x, h1, (hp i (hne i e)).trans h2, h3⟩
  · by_cases e : i = k
    · subst e
      obtain rfl : 0 = x := Option.some.inj ((setP_same _ _ _).symm.trans hx)
      exact ⟨t, ht, by omega, hR⟩
    · exact h.mr i x ((hp i e).symm.trans hx)
  · by_cases e : i = k
    · exact absurd (by rw [e]; exact List.mem_cons_self) hni
    · exact h.bl i x ((hp i e).symm.trans hx) (fun h2 => hni (List.mem_cons_of_mem _ h2)) u hu
  · by_cases e : i = k
    · subst e
      obtain rfl : 0 = x := Option.some.inj ((setP_same _ _ _).symm.trans hx)
      omega
    · exact hnn k' (h.go i x ((hp i e).symm.trans hx) j hj hpt k' hk')
  · cases pre with
    | nil =>
      have he' : k :: c :: r = a :: b :: r' := he
      obtain ⟨rfl, e2⟩ := List.cons.inj he'
      obtain ⟨rfl, rfl⟩ := List.cons.inj e2
      exact ⟨q, (hp c (hne c List.mem_cons_self)).trans hq, hpt, hn⟩
    | cons y ys =>
      have he' : k :: c :: r = y :: (ys ++ a :: b :: r') := he
      obtain ⟨rfl, e2⟩ := List.cons.inj he'
      obtain ⟨z, h1, h2, h3⟩ := h.ch a b r' ys e2
      have hb : b ∈ c :: r := by rw [e2]; simp
      exact ⟨z, (hp b (hne b hb)).trans h1, h2, h3⟩
theorem Inv.pop {b : Nat} (h : Inv T R ⟨p, c :: b :: r⟩) {t : Th} (ht : T[c]? = some t) (hq : p c = some t.l.length) : Inv T R ⟨p, b :: r⟩ := by
  refine ⟨(List.nodup_cons.1 h.nd).2, fun i hi => h.ms i (List.mem_cons_of_mem _ hi), h.mr, fun i x hx hn u hu => ?_, h.go, fun a b' r' pre he => h.ch a b' r' (c :: pre) (by show c :: b :: r = _; rw [show b :: r = pre ++ a :: b' :: r' from he]; rfl)⟩
  by_cases e : i = c
  · subst e
    obtain rfl := Option.some.inj (ht.symm.trans hu)
    exact (Option.some.inj (hq.symm.trans hx)).symm
  · exact h.bl i x hx (fun h2 => by rcases List.mem_cons.1 h2 with h3 | h3; exact e h3; exact hn h3) u hu
theorem Inv.done (h : Inv T R ⟨p, [c]⟩) {t : Th} (ht : T[c]? = some t) (hq : p c = some t.l.length) : Inv T R ⟨p, []⟩ := by
  refine ⟨List.nodup_nil, fun i hi => by simp at hi, h.mr, fun i x hx _ u hu => ?_, h.go, fun a b r' pre he => by simp at he⟩
  by_cases e : i = c
  · subst e
    obtain rfl := Option.some.inj (ht.symm.trans hu)
    exact (Option.some.inj (hq.symm.trans hx)).symm
  · exact h.bl i x hx (by simpa using e) u hu
theorem Inv.start (h : Inv T R ⟨p, []⟩) (hk : p k = none) {t : Th} (ht : T[k]? = some t) (hR : R k) : Inv T R ⟨setP p k (some 0), [k]⟩ := by
  have hp : ∀ x, x ≠ k → setP p k (some 0) x = p x := fun x hx => setP_other _ _ hx
  refine ⟨by simp, fun i hi => ?_, fun i x hx => ?_, fun i x hx hni u hu => ?_, fun i x hx j hj hpt k' hk' => ?_, fun a b r' pre he => ?_⟩
  · obtain rfl : i = k := by simpa using hi
    exact ⟨t, 0, ht, setP_same _ _ _, by omega⟩
  · by_cases e : i = k
    · subst e
      obtain rfl : 0 = x := Option.some.inj ((setP_same _ _ _).symm.trans hx)
      exact ⟨t, ht, by omega, hR⟩
    · exact h.mr i x ((hp i e).symm.trans hx)
  · by_cases e : i = k
    · exact absurd (by simpa using e) hni
    · exact h.bl i x ((hp i e).symm.trans hx) (by simp) u hu
  · by_cases e : i = k
    · subst e
      obtain rfl : 0 = x := Option.some.inj ((setP_same _ _ _).symm.trans hx)
      omega
    · have := h.go i x ((hp i e).symm.trans hx) j hj hpt k' hk'
      by_cases e2 : k' = k
      · subst e2; show setP p k' (some 0) k' ≠ none; rw [setP_same]; simp
      · show setP p k (some 0) k' ≠ none; rw [hp k' e2]; exact this
  · have := congrArg List.length he
    simp at this
    omega
/-- Where nothing is on the way, what is marked is closed. -/
theorem Inv.closed (h : Inv T R ⟨p, []⟩) {i : Nat} (hi : p i ≠ none) {t : Th} (ht : T[i]? = some t) {j : Nat} (hj : j < t.l.length) (hpt : (clOf T i j).ptr = true) {m : Nat} (hm : Is T (clOf T i j).n m) : p m ≠ none := by
  obtain ⟨x, hx⟩ := Option.ne_none_iff_exists'.1 hi
  obtain rfl := h.bl i x hx (by simp) t ht
  exact h.go i _ hx j hj hpt m hm
end Hp
end Go.Proofs.Ytidgppghakmkaaa
