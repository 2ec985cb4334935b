/-
  No row grows beyond all names that were put in; plain laws, no program is named here.
-/
import Derived.Test.YtcogpcalghfghaaMGb
set_option linter.unusedVariables false
set_option linter.unusedSimpArgs false
namespace Go.Proofs.Ytcogpcalghfghaa
namespace Un

abbrev Led := List (Option Nat × Nat)
def bud (L : Led) (k : Option Nat) : Nat := ((L.filter fun e => e.1 == k).map (·.2)).sum
def total (L : Led) : Nat := (L.map (·.2)).sum
def rk (p : Option Nat → Bool) (x : Option Nat) (L : Led) : Led := L.map fun e => if p e.1 then (x, e.2) else e
theorem bud_cons (e : Option Nat × Nat) (L : Led) (k : Option Nat) : bud (e :: L) k = (if e.1 = k then e.2 else 0) + bud L k := by
  unfold bud
  rw [List.filter_cons]
  by_cases h : e.1 = k
  · simp [h]
  · simp [h]
theorem total_cons (e : Option Nat × Nat) (L : Led) : total (e :: L) = e.2 + total L := by simp [total]
theorem rk_cons (p : Option Nat → Bool) (x : Option Nat) (e : Option Nat × Nat) (L : Led) : rk p x (e :: L) = (if p e.1 then (x, e.2) else e) :: rk p x L := rfl
theorem total_rk (p : Option Nat → Bool) (x : Option Nat) : ∀ (L : Led), total (rk p x L) = total L := by
  intro L
  induction L with
  | nil => rfl
  | cons e L ih =>
    rw [rk_cons, total_cons, total_cons, ih]
    split <;> rfl
theorem bud_le (k : Option Nat) : ∀ (L : Led), bud L k ≤ total L := by
  intro L
  induction L with
  | nil => simp [bud]
  | cons e L ih =>
    rw [bud_cons, total_cons]
    split <;> omega
theorem bud_other {p : Option Nat → Bool} {x k : Option Nat} (hx : k ≠ x) (hp : p k = false) : ∀ (L : Led), bud (rk p x L) k = bud L k := by
  intro L
  induction L with
  | nil => rfl
  | cons e L ih =>
    rw [rk_cons, bud_cons, bud_cons, ih]
    by_cases h : p e.1 = true
    · have h1 : e.1 ≠ k := fun e1 => by rw [e1, hp] at h; cases h
      rw [if_pos h, if_neg (fun e1 => hx e1.symm), if_neg h1]
    · rw [if_neg h]
theorem bud_two {p : Option Nat → Bool} {x u v : Option Nat} (hu : p u = true ∨ u = x) (hv : p v = true ∨ v = x) (h : u ≠ v) : ∀ (L : Led), bud L u + bud L v ≤ bud (rk p x L) x := by
  intro L
  induction L with
  | nil => simp [bud]
  | cons e L ih =>
    rw [rk_cons, bud_cons, bud_cons, bud_cons]
    have key : (e.1 = u ∨ e.1 = v) → (if p e.1 = true then (x, e.2) else e) = (x, e.2) := by
      intro h1
      by_cases h2 : p e.1 = true
      · rw [if_pos h2]
      · rw [if_neg h2]
        have h3 : e.1 = x := by
          rcases h1 with h1 | h1
          · rw [h1] at h2 ⊢; exact hu.resolve_left h2
          · rw [h1] at h2 ⊢; exact hv.resolve_left h2
        rw [← h3]
    by_cases h1 : e.1 = u
    · rw [key (.inl h1), if_pos h1, if_neg (fun e1 => h (h1.symm.trans e1)), if_pos rfl]
      show e.2 + bud L u + (0 + bud L v) ≤ e.2 + _
      omega
    · by_cases h2 : e.1 = v
      · rw [key (.inr h2), if_neg h1, if_pos h2, if_pos rfl]
        show 0 + bud L u + (e.2 + bud L v) ≤ e.2 + _
        omega
      · rw [if_neg h1, if_neg h2]
        omega
theorem bud_up {p : Option Nat → Bool} {x : Option Nat} : ∀ (L : Led), bud L x ≤ bud (rk p x L) x := by
  intro L
  induction L with
  | nil => simp [bud]
  | cons e L ih =>
    rw [rk_cons, bud_cons, bud_cons]
    by_cases h1 : e.1 = x
    · by_cases h2 : p e.1 = true
      · rw [if_pos h2, if_pos h1, if_pos rfl]; show e.2 + _ ≤ e.2 + _; omega
      · rw [if_neg h2, if_pos h1]; omega
    · rw [if_neg h1]; omega

namespace Gr
/-- Each row's names have room in what its variable has, and all that is no more than T. -/
structure Bl (G : Gr) (L : Led) : Prop where
  w : ∀ i, i < G.n → (G.whole i).1.length ≤ bud L (G.whole i).2
  v : ∀ r, r < G.m → (G.W r).1.length ≤ bud L (G.W r).2
def Bd (G : Gr) (T : Nat) : Prop := ∃ L, G.Bl L ∧ total L ≤ T
theorem Bd.whole {G : Gr} {T i : Nat} (h : G.Bd T) (hi : i < G.n) : (G.whole i).1.length ≤ T := by
  obtain ⟨L, h1, h2⟩ := h
  exact Nat.le_trans (h1.w i hi) (Nat.le_trans (bud_le _ _) h2)
theorem Bd.W {G : Gr} {T r : Nat} (h : G.Bd T) (hr : r < G.m) : (G.W r).1.length ≤ T := by
  obtain ⟨L, h1, h2⟩ := h
  exact Nat.le_trans (h1.v r hr) (Nat.le_trans (bud_le _ _) h2)
theorem Bd.le {G : Gr} {T U : Nat} (h : G.Bd T) (hu : T ≤ U) : G.Bd U := by
  obtain ⟨L, h1, h2⟩ := h
  exact ⟨L, h1, Nat.le_trans h2 hu⟩
theorem bl_cons {G : Gr} {L : Led} (h : G.Bl L) (e : Option Nat × Nat) : G.Bl (e :: L) :=
  ⟨fun i hi => by rw [bud_cons]; have := h.w i hi; omega, fun r hr => by rw [bud_cons]; have := h.v r hr; omega⟩
theorem link_bd {G : Gr} {T a b : Nat} (h : G.Bd T) : (G.link a b).Bd T := by
  obtain ⟨L, h1, h2⟩ := h
  exact ⟨L, ⟨h1.w, h1.v⟩, h2⟩
theorem opened_whole {G : Gr} (hG : G.OK) {i : Nat} (hi : i < G.n) : G.opened.whole i = G.whole i := by
  unfold Gr.whole
  show (match G.rv i with | none => (G.ops i, none) | some r => (joinB (G.ops i) (G.opened.W r).1, (G.opened.W r).2)) = _
  cases hr : G.rv i with
  | none => rfl
  | some r => simp only; rw [opened_old (hG.rv_lt i hi r hr)]
theorem stands_whole {G : Gr} {v : Nat} {e : List Nm} {x : Option Nat} (hG : G.OK) {i : Nat} (hi : i < G.n) : (G.stands v e x).whole i = if (G.whole i).2 = some v then (joinB (G.whole i).1 e, x) else G.whole i := by
  unfold Gr.whole
  show (match G.rv i with | none => (G.ops i, none) | some r => (joinB (G.ops i) ((G.stands v e x).W r).1, ((G.stands v e x).W r).2)) = _
  cases hr : G.rv i with
  | none => rfl
  | some r =>
    simp only
    show (joinB (G.ops i) (if (G.W r).2 = some v then (joinB (G.W r).1 e, x) else G.W r).1, (if (G.W r).2 = some v then (joinB (G.W r).1 e, x) else G.W r).2) = _
    by_cases h : (G.W r).2 = some v
    · rw [if_pos h, if_pos h]
      simp only
      rw [joinB_assoc (hG.ops_srt i hi)]
    · rw [if_neg h, if_neg h]
theorem stands_W {G : Gr} {v : Nat} {e : List Nm} {x : Option Nat} (r : Nat) : (G.stands v e x).W r = if (G.W r).2 = some v then (joinB (G.W r).1 e, x) else G.W r := rfl
/-- What a variable stands for, if each row's part has room. -/
theorem stands_bl {G : Gr} {v : Nat} {e : List Nm} {x : Option Nat} {L L' : Led} (hG : G.OK) (h : G.Bl L) (hv : bud L (some v) + e.length ≤ bud L' x) (ho : ∀ k, k ≠ some v → bud L k ≤ bud L' k) : (G.stands v e x).Bl L' := by
  constructor
  · intro i hi
    have hi' : i < G.n := hi
    rw [stands_whole hG hi']
    have h1 := h.w i hi'
    by_cases e1 : (G.whole i).2 = some v
    · rw [if_pos e1]
      simp only
      rw [e1] at h1
      rw [joinB_length]
      omega
    · rw [if_neg e1]
      exact Nat.le_trans h1 (ho _ e1)
  · intro r hr
    have hr' : r < G.m := hr
    rw [stands_W]
    have h1 := h.v r hr'
    by_cases e1 : (G.W r).2 = some v
    · rw [if_pos e1]
      simp only
      rw [e1] at h1
      rw [joinB_length]
      omega
    · rw [if_neg e1]
      exact Nat.le_trans h1 (ho _ e1)
theorem less_len (a b : List Nm) : (less a b).length ≤ a.length := (less_sub a b).length_le
theorem sameRow_bd {G H : Gr} {T : Nat} (h : G.OK) (hb : G.Bd T) {i j : Nat} (hi : i < G.n) (hj : j < G.n) (hs : G.sameRow i j = some H) : H.Bd T := by
  obtain ⟨L, hl, ht⟩ := hb
  have bi := hl.w i hi
  have bj := hl.w j hj
  unfold sameRow at hs
  simp only at hs
  by_cases e : (G.whole i).2 = (G.whole j).2
  · rw [if_pos e] at hs
    split at hs
    · obtain rfl := Option.some.inj hs
      exact ⟨L, hl, ht⟩
    · cases hs
  · rw [if_neg e] at hs
    cases hv : (G.whole i).2 with
    | none =>
      cases hw : (G.whole j).2 with
      | none => rw [hv, hw] at e; exact absurd rfl e
      | some w =>
        rw [hv, hw] at hs
        simp only at hs
        split at hs
        · obtain rfl := Option.some.inj hs
          refine ⟨rk (fun k => k == some w) none L, stands_bl h hl ?_ (fun k hk => ?_), by rw [total_rk]; exact ht⟩
          · have h1 := bud_two (p := fun k => k == some w) (x := none) (u := some w) (v := none) (.inl (by simp)) (.inr rfl) (by simp) L
            have h2 := less_len (G.whole i).1 (G.whole j).1
            rw [hv] at bi
            omega
          · by_cases e1 : k = none
            · subst e1; exact bud_up L
            · rw [bud_other e1 (by simpa using hk)]
              exact Nat.le_refl _
        · cases hs
    | some v =>
      cases hw : (G.whole j).2 with
      | none =>
        rw [hv, hw] at hs
        simp only at hs
        split at hs
        · obtain rfl := Option.some.inj hs
          refine ⟨rk (fun k => k == some v) none L, stands_bl h hl ?_ (fun k hk => ?_), by rw [total_rk]; exact ht⟩
          · have h1 := bud_two (p := fun k => k == some v) (x := none) (u := some v) (v := none) (.inl (by simp)) (.inr rfl) (by simp) L
            have h2 := less_len (G.whole j).1 (G.whole i).1
            rw [hw] at bj
            omega
          · by_cases e1 : k = none
            · subst e1; exact bud_up L
            · rw [bud_other e1 (by simpa using hk)]
              exact Nat.le_refl _
        · cases hs
      | some w =>
        rw [hv, hw] at hs
        simp only at hs
        obtain rfl := Option.some.inj hs
        obtain ⟨v1, v2⟩ := whole_some h hi hv
        obtain ⟨w1, w2⟩ := whole_some h hj hw
        have hvw : v ≠ w := fun e2 => e (by rw [hv, hw, e2])
        have o1 := opened_ok h
        have s1 := stands_ok (v := v) (e := less (G.whole j).1 (G.whole i).1) (x := some G.m) o1 (Nat.lt_succ_of_lt v1) (fun y hy => by
          obtain rfl := Option.some.inj hy
          exact ⟨Nat.lt_succ_self _, by omega, opened_new G⟩)
        have h2 := less_len (G.whole j).1 (G.whole i).1
        have h3 := less_len (G.whole i).1 (G.whole j).1
        rw [hv] at bi
        rw [hw] at bj
        /- first v's part, with what w has copied: then w's -/
        have hT := bud_two (p := fun k => k == some v || k == some w) (x := some G.m) (u := some v) (v := some w) (.inl (by simp)) (.inl (by simp)) (by simpa using hvw) L
        refine ⟨rk (fun k => k == some v || k == some w) (some G.m) L, ⟨fun q hq => ?_, fun r hr => ?_⟩, by rw [total_rk]; exact ht⟩
        · have hq' : q < G.n := hq
          have hq1 : q < (G.opened.stands v (less (G.whole j).1 (G.whole i).1) (some G.m)).n := hq'
          rw [stands_whole s1 hq1, stands_whole o1 hq', opened_whole h hq']
          have bq := hl.w q hq'
          by_cases e1 : (G.whole q).2 = some v
          · rw [if_pos e1]
            simp only
            have hne : ¬ (some G.m : Option Nat) = some w := by intro e2; have := Option.some.inj e2; omega
            rw [if_neg hne]
            simp only
            rw [joinB_length]
            rw [e1] at bq
            omega
          · rw [if_neg e1]
            by_cases e2 : (G.whole q).2 = some w
            · rw [if_pos e2]
              simp only
              rw [joinB_length]
              rw [e2] at bq
              omega
            · rw [if_neg e2]
              by_cases e3 : (G.whole q).2 = some G.m
              · have := (whole_some h hq' e3).1; omega
              · rw [bud_other e3 (by simp [e1, e2])]
                exact bq
        · rw [stands_W, stands_W]
          have hr' : r < G.m + 1 := hr
          by_cases e0 : r = G.m
          · subst e0
            rw [opened_new]
            have n1 : ¬ (some G.m : Option Nat) = some v := by intro e2; have := Option.some.inj e2; omega
            have n2 : ¬ (some G.m : Option Nat) = some w := by intro e2; have := Option.some.inj e2; omega
            simp only
            rw [if_neg n1]
            simp only
            rw [if_neg n2]
            exact Nat.zero_le _
          · rw [opened_old (by omega)]
            have bq := hl.v r (by omega)
            by_cases e1 : (G.W r).2 = some v
            · rw [if_pos e1]
              simp only
              have hne : ¬ (some G.m : Option Nat) = some w := by intro e2; have := Option.some.inj e2; omega
              rw [if_neg hne]
              simp only
              rw [joinB_length]
              rw [e1] at bq
              omega
            · rw [if_neg e1]
              by_cases e2 : (G.W r).2 = some w
              · rw [if_pos e2]
                simp only
                rw [joinB_length]
                rw [e2] at bq
                omega
              · rw [if_neg e2]
                by_cases e3 : (G.W r).2 = some G.m
                · have := (h.W_lt r (by omega) _ e3).1; omega
                · rw [bud_other e3 (by simp [e1, e2])]
                  exact bq
theorem uni_bd {T : Nat} : ∀ (k : Nat) (G : Gr) (a b : Nat) (H : Gr), G.OK → G.Bd T → a < G.n → b < G.n → uni k G a b = some H → H.Bd T := by
  intro k
  induction k with
  | zero => intro G a b H _ _ _ _ e; cases e
  | succ k ih =>
    intro G a b H h hB ha hb e
    have hra := h.rep_rep a ha
    have hrb := h.rep_rep b hb
    have hla := h.rep_lt a ha
    have hlb := h.rep_lt b hb
    unfold uni at e
    split at e
    · obtain rfl := Option.some.inj e; exact hB
    · rename_i hab
      split at e
      · obtain rfl := Option.some.inj e; exact link_bd hB
      · split at e
        · obtain rfl := Option.some.inj e; exact link_bd hB
        · split at e
          · cases e
          · rename_i hk
            have hk' : G.kind (G.rep a) = G.kind (G.rep b) := by simpa using hk
            have l1 := link_ok h hlb hra hrb hab (.inr hk')
            cases hx : each (uni k) (G.kids (G.rep a)) (G.kids (G.rep b)) (G.link (G.rep a) (G.rep b)) with
            | none => rw [hx] at e; cases e
            | some K =>
              rw [hx] at e
              obtain ⟨k1, k2, k3⟩ := each_ok (fun G => G.Bd T) (fun G a b H h1 hp h2 h3 h4 => ⟨(uni_ok k G a b H h1 h2 h3 h4).1, (uni_ok k G a b H h1 h2 h3 h4).2, ih G a b H h1 hp h2 h3 h4⟩) _ _ _ K l1 (link_bd hB) (h.kids_lt _ hla) (h.kids_lt _ hlb) hx
              have hn : K.n = G.n := k2.n
              exact sameRow_bd k1 k3 (by rw [hn]; exact hla) (by rw [hn]; exact hlb) e
theorem add_bd {G : Gr} {T : Nat} (hG : G.OK) (h : G.Bd T) (k : Nat) (ks : List Nat) (o : List Nm) (r : Option Nat) (hr : ∀ x, r = some x → x < G.m) : (G.add k ks o r).Bd (T + o.length) := by
  obtain ⟨L, h1, h2⟩ := h
  have old : ∀ i, i < G.n → (G.add k ks o r).whole i = G.whole i := by
    intro i hi
    unfold Gr.whole
    show (match (if i = G.n then r else G.rv i) with | none => ((if i = G.n then o else G.ops i), none) | some q => (joinB (if i = G.n then o else G.ops i) (G.W q).1, (G.W q).2)) = _
    rw [if_neg (by omega), if_neg (by omega)]
    cases G.rv i <;> rfl
  have new : (G.add k ks o r).whole G.n = match r with | none => (o, none) | some q => (joinB o (G.W q).1, (G.W q).2) := by
    unfold Gr.whole
    show (match (if G.n = G.n then r else G.rv G.n) with | none => ((if G.n = G.n then o else G.ops G.n), none) | some q => (joinB (if G.n = G.n then o else G.ops G.n) (G.W q).1, (G.W q).2)) = _
    rw [if_pos rfl, if_pos rfl]
    cases r <;> rfl
  have ex : ∀ e : Option Nat × Nat, e.2 = o.length → (((G.add k ks o r).whole G.n).1.length ≤ bud (e :: L) ((G.add k ks o r).whole G.n).2) → (G.add k ks o r).Bd (T + o.length) := by
    intro e he hw
    refine ⟨e :: L, ⟨fun i hi => ?_, fun q hq => (bl_cons h1 e).v q hq⟩, by rw [total_cons]; omega⟩
    have hi' : i < G.n + 1 := hi
    by_cases e1 : i = G.n
    · subst e1; exact hw
    · rw [old i (by omega)]
      exact (bl_cons h1 e).w i (by omega)
  cases r with
  | none =>
    refine ex (none, o.length) rfl ?_
    rw [new]
    simp only
    rw [bud_cons, if_pos rfl]
    simp only
    omega
  | some q =>
    have hq := hr q rfl
    · refine ex ((G.W q).2, o.length) rfl ?_
      rw [new]
      simp only
      rw [bud_cons, if_pos rfl, joinB_length]
      have := h1.v q hq
      simp only
      omega
end Gr
end Un
end Go.Proofs.Ytcogpcalghfghaa
