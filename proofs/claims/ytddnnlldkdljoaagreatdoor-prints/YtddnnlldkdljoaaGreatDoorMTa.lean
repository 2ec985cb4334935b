/-
  The tokens that the program says, with blanks between them, are what the document writes.
  What the program writes is what the document writes, of every tree that is well made.
-/
import Derived.Test.YtddnnlldkdljoaaGreatDoorMQa
namespace Go.Proofs.YtddnnlldkdljoaaGreatDoor
open Go.RowKit
open Sy (Tr)

def jn (l : List (List UInt8)) : List UInt8 := Lib.join l [32]
theorem jn_nil : jn [] = [] := rfl
theorem jn_one (x : List UInt8) : jn [x] = x := Lib.join_one x [32]
theorem jn_cons (x : List UInt8) (l : List (List UInt8)) (h : l ≠ []) : jn (x :: l) = x ++ [32] ++ jn l := by
  cases l with
  | nil => exact absurd rfl h
  | cons y r => simp [jn, Lib.join, List.intercalate]
theorem jn_append (a b : List (List UInt8)) (ha : a ≠ []) (hb : b ≠ []) : jn (a ++ b) = jn a ++ [32] ++ jn b := by
  induction a with
  | nil => exact absurd rfl ha
  | cons x r ih =>
    cases r with
    | nil => rw [List.cons_append, List.nil_append, jn_cons x b hb, jn_one]
    | cons y r =>
      rw [List.cons_append, jn_cons x (y :: r ++ b) (by simp), ih (by simp), jn_cons x (y :: r) (by simp)]
      simp
theorem inP_ne (f : Tr → List (List UInt8)) (t : Tr) (l : Int) (h : f t ≠ []) : inP f t l ≠ [] := by
  unfold inP
  split
  · exact h
  · simp
theorem lev_same (k : Int) (x : List UInt8) (l : Int) (hk : k < 24 ∨ l ≤ 2) (hx : k = 18 → x = [43] ∨ x = [45] ∨ x = [42] ∨ x = [60] ∨ x = [61, 61]) : (l ≤ levP k x) ↔ ¬ (levD k x < l) := by
  by_cases h18 : k = 18
  · subst h18
    rcases hx rfl with rfl | rfl | rfl | rfl | rfl <;> simp [levP, levD]
  · unfold levP levD
    repeat' split
    all_goals omega
theorem jn_in (f : Tr → List (List UInt8)) (g : Tr → List UInt8) (t : Tr) (l : Int) (h : f t ≠ []) (e : jn (f t) = g t) (hk : t.kind < 24 ∨ l ≤ 2) (hx : t.kind = 18 → t.name = [43] ∨ t.name = [45] ∨ t.name = [42] ∨ t.name = [60] ∨ t.name = [61, 61]) : jn (inP f t l) = inT g t l := by
  have hs := lev_same t.kind t.name l (by omega) (fun h => hx (by omega))
  unfold inP inT
  by_cases h1 : l ≤ levP t.kind t.name
  · rw [if_pos h1, if_neg (hs.1 h1), e]
  · have h2 : levD t.kind t.name < l := by
      by_cases h2 : levD t.kind t.name < l
      · exact h2
      · exact absurd (hs.2 h2) h1
    rw [if_neg h1, if_pos h2, List.cons_append, jn_cons _ _ (by simp), jn_append _ _ h (by simp), jn_one, e]
    simp

theorem numTk_jn (m : Int) : jn (numTk m) = numT m ∧ numTk m ≠ [] := by
  unfold numTk numT
  split
  · refine ⟨?_, by simp⟩
    rw [jn_cons _ _ (by simp), jn_one]
    simp
  · exact ⟨jn_one _, by simp⟩
theorem leafTk_jn (k m : Int) (x : List UInt8) : jn (leafTk k m x) = leafT k m x ∧ leafTk k m x ≠ [] := by
  unfold leafTk leafT
  repeat' split
  all_goals refine ⟨?_, by simp⟩
  all_goals first | exact jn_one _ | rfl
theorem row_jn : ∀ (r : List (List UInt8)) (x : List UInt8), jn (x :: r.flatMap fun y => [[44], y]) = commaT (x :: r) := by
  intro r
  induction r with
  | nil => intro x; simp [jn_one, commaT]
  | cons y r ih =>
    intro x
    have e : (y :: r).flatMap (fun y => [[44], y]) = [44] :: y :: r.flatMap (fun y => [[44], y]) := by simp
    rw [e, jn_cons _ _ (by simp), jn_cons _ _ (by simp), ih]
    simp [commaT]
theorem arr_jn (ns : List (List UInt8)) (a b : List (List UInt8)) (ha : a ≠ []) (hb : b ≠ []) : jn (a ++ arrTk ns ++ b) = jn a ++ arrT ns ++ jn b := by
  unfold arrTk arrT
  cases ns with
  | nil =>
    simp only [if_pos]
    rw [jn_append _ _ (by simp [ha]) hb, List.nil_append, jn_append _ _ ha (by simp), jn_one]
    simp
  | cons x r =>
    rw [if_neg (by simp), if_neg (by simp)]
    rw [jn_append _ _ (by simp [ha]) hb, jn_append _ _ ha (by simp)]
    rw [jn_append _ _ (by simp [rowTk]) (by simp), jn_append _ _ (by simp [rowTk]) (by simp), jn_one, jn_one]
    simp only [rowTk]
    rw [jn_cons _ _ (by simp), jn_cons _ _ (by simp), row_jn]
    simp
/-- Words of a clause, each behind its bar. -/
theorem cls_jn (f : Tr → List (List UInt8)) (g : Tr → List UInt8) : ∀ (cs : List Tr) (a : List (List UInt8)), a ≠ [] → (∀ q ∈ cs, f (q.kids.getD 2 Sy.zT) ≠ [] ∧ jn (f (q.kids.getD 2 Sy.zT)) = g (q.kids.getD 2 Sy.zT)) →
    jn (a ++ cs.flatMap (fun q => [124] :: clauseTk f q) ++ [[125]]) = jn a ++ clsT (cs.map (clauseOf g)) ++ [32, 125] := by
  intro cs
  induction cs with
  | nil =>
    intro a ha _
    simp only [List.flatMap_nil, List.append_nil, List.map_nil]
    rw [jn_append _ _ ha (by simp), jn_one]
    simp [clsT]
  | cons q cs ih =>
    intro a ha hq
    obtain ⟨h1, h2⟩ := hq q (by simp)
    have e : a ++ (q :: cs).flatMap (fun q => [124] :: clauseTk f q) ++ [[125]] = (a ++ ([124] :: clauseTk f q)) ++ cs.flatMap (fun q => [124] :: clauseTk f q) ++ [[125]] := by simp
    rw [e, ih _ (by simp) (fun q hq' => hq q (by simp [hq'])), jn_append _ _ ha (by simp), jn_cons _ _ (by simp [clauseTk])]
    have ec : jn (clauseTk f q) = q.name ++ [32] ++ (q.kids.getD 0 Sy.zT).name ++ [32] ++ (q.kids.getD 1 Sy.zT).name ++ [32, 61, 62, 32] ++ g (q.kids.getD 2 Sy.zT) := by
      unfold clauseTk
      rw [jn_append _ _ (by simp) (by simp), jn_cons _ _ (by simp), jn_cons _ _ (by simp), jn_one, jn_cons _ _ h1, h2]
      simp
    rw [ec]
    simp [clsT, clT, clauseOf]
theorem its_jn (f : Tr → List (List UInt8)) (g : Tr → List UInt8) (mn : Tr) (hm : mn.kind ≠ 1 ∧ mn.kind ≠ 2) (hf : f mn ≠ []) (hg : jn (f mn) = g mn) : ∀ (its : List Tr),
    (∀ q ∈ its, (q.kind = 1 ∧ (f (q.kids.getD 0 Sy.zT) ≠ [] ∧ jn (f (q.kids.getD 0 Sy.zT)) = g (q.kids.getD 0 Sy.zT)) ∧ f (q.kids.getD 1 Sy.zT) ≠ [] ∧ jn (f (q.kids.getD 1 Sy.zT)) = g (q.kids.getD 1 Sy.zT)) ∨ (q.kind = 2 ∧ f (kid0 (kid0 q)) ≠ [] ∧ jn (f (kid0 (kid0 q))) = g (kid0 (kid0 q)))) →
    jn (its.flatMap (itemTk f) ++ [[109, 97, 105, 110]] ++ ([61] :: f mn)) = itsT ((its ++ [mn]).map (itemOf g)) := by
  intro its
  induction its with
  | nil =>
    intro _
    simp only [List.flatMap_nil, List.nil_append, List.map_cons, List.map_nil]
    rw [jn_append _ _ (by simp) (by simp), jn_one, jn_cons _ _ hf, hg]
    simp [itsT, itemOf, hm.1, hm.2, mnT]
  | cons q its ih =>
    intro hq
    have e : (q :: its).flatMap (itemTk f) ++ [[109, 97, 105, 110]] ++ ([61] :: f mn) = itemTk f q ++ (its.flatMap (itemTk f) ++ [[109, 97, 105, 110]] ++ ([61] :: f mn)) := by simp
    have e2 : itsT ((q :: its ++ [mn]).map (itemOf g)) = itemOf g q ++ itsT ((its ++ [mn]).map (itemOf g)) := by simp [itsT]
    rw [e, e2, ← ih (fun q hq' => hq q (by simp [hq']))]
    rcases hq q (by simp) with ⟨h1, ⟨ha, ha2⟩, hb, hb2⟩ | ⟨h1, ha, ha2⟩
    · rw [jn_append _ _ (by unfold itemTk; rw [if_pos h1]; simp) (by simp)]
      have ei : jn (itemTk f q) ++ [32] = itemOf g q := by
        unfold itemTk itemOf opT
        rw [if_pos h1, if_pos h1]
        rw [jn_append _ _ (by simp) (by simp), jn_append _ _ (by simp) (by simp), jn_append _ _ (by simp) (by simp), jn_append _ _ (by simp) (by simp), jn_one, jn_one, jn_one, jn_cons _ _ ha, jn_cons _ _ hb, ha2, hb2]
        by_cases hn : q.num = 1 <;> simp [hn]
      rw [ei]
    · have h11 : ¬ q.kind = 1 := by omega
      rw [jn_append _ _ (by unfold itemTk; rw [if_neg h11]; split <;> simp) (by simp)]
      have ei : jn (itemTk f q) ++ [32] = itemOf g q := by
        unfold itemTk itemOf dfT recT
        rw [if_neg h11, if_neg h11, if_pos h1]
        by_cases hn : q.num = 1
        · rw [if_pos hn, if_pos hn]
          rw [jn_append _ _ (by simp) (by simp), jn_append _ _ (by simp) (by simp), jn_append _ _ (by simp) (by simp), jn_append _ _ (by simp) (by simp), jn_one, jn_one, jn_one, jn_one, jn_cons _ _ ha, ha2]
          simp
        · rw [if_neg hn, if_neg hn]
          rw [jn_append _ _ (by simp) (by simp), jn_append _ _ (by simp) (by simp), jn_append _ _ (by simp) (by simp), jn_one, jn_one, jn_one, jn_cons _ _ ha, ha2]
          simp
      rw [ei]
end Go.Proofs.YtddnnlldkdljoaaGreatDoor

namespace Go.Proofs.YtddnnlldkdljoaaGreatDoor
open Go.RowKit
open Sy (Tr)

theorem wp_sign {n : Nat} {t : Tr} (h : Wp n t) (hk : t.kind = 18) : t.name = [43] ∨ t.name = [45] ∨ t.name = [42] ∨ t.name = [60] ∨ t.name = [61, 61] := by
  cases n with
  | zero => exact h.elim
  | succ n =>
    obtain ⟨_, h⟩ := h
    rcases h with ⟨_, h⟩ | ⟨_, h, _⟩ | ⟨h, _⟩ | ⟨h, _⟩ | ⟨h, _⟩ | ⟨h, _⟩ | ⟨h, _⟩ | ⟨h, _⟩ | ⟨h, _⟩ | ⟨h, _⟩
    · omega
    · omega
    · omega
    · rcases h with h | ⟨h, _⟩ | h | h | h | ⟨_, h⟩ | h
      · omega
      · omega
      · omega
      · omega
      · omega
      · exact h
      · omega
    all_goals omega
def JOK (n : Nat) : Prop := ∀ (t : Tr), Wp n t → tk n t ≠ [] ∧ jn (tk n t) = txt n t
theorem in_jn {n : Nat} (h : JOK n) {t : Tr} (ht : Wp n t) (l : Int) (hk : t.kind < 24 ∨ l ≤ 2) : inP (tk n) t l ≠ [] ∧ jn (inP (tk n) t l) = inT (txt n) t l :=
  ⟨inP_ne _ _ _ (h t ht).1, jn_in _ _ _ _ (h t ht).1 (h t ht).2 hk (wp_sign ht)⟩
theorem two_jn {a b : List (List UInt8)} {x y : List UInt8} (s : List UInt8) (ha : a ≠ [] ∧ jn a = x) (hb : b ≠ [] ∧ jn b = y) : a ++ [s] ++ b ≠ [] ∧ jn (a ++ [s] ++ b) = x ++ ([32] ++ s ++ [32]) ++ y := by
  refine ⟨by simp, ?_⟩
  rw [jn_append _ _ (by simp) hb.1, jn_append _ _ ha.1 (by simp), jn_one, ha.2, hb.2]
  simp
set_option maxHeartbeats 4000000 in
theorem jn_tk : ∀ n, JOK n := by
  intro n
  induction n with
  | zero => intro t ht; exact ht.elim
  | succ n ih =>
    intro t ht
    obtain ⟨k, p, x, m, kids⟩ := t
    obtain ⟨hx, ht⟩ := ht
    rcases ht with ⟨e1, ht⟩ | ⟨e1, e2, h1, h2⟩ | ⟨hkk, a, e1, hak, ha⟩ | ⟨hkk, a, b, e1, hak, ha, hb⟩ | ⟨e1, e2, f, a, b, e3, hf, hfa, ha, hb⟩ | ⟨e1, a, b, c, e2, ha, hb, hc⟩ | ⟨e1, a, b, c, d, e, e2, hc, hd, ha, hb, he⟩ | ⟨e1, hns, a, r, e, cs, e2, hr, hre, ha, he, hcs⟩ | ⟨e1, hns, a, b, ns, e2, ha, hb⟩ | ⟨e1, hns, its, mn, e2, hm1, hm2, hmn, hi⟩
    · replace e1 : kids = [] := e1
      subst e1
      replace ht : k = 4 ∨ k = 5 ∨ k = 6 ∨ k = 23 ∨ k = 15 ∨ k = 24 ∨ k = 25 ∨ k = 26 := ht
      have e : tk (n + 1) (.mk k p x m []) = leafTk k m x ∧ txt (n + 1) (.mk k p x m []) = leafT k m x := by
        rcases ht with rfl | rfl | rfl | rfl | rfl | rfl | rfl | rfl <;> exact ⟨rfl, rfl⟩
      rw [e.1, e.2]
      exact (leafTk_jn k m x).symm
    · replace e1 : kids = [] := e1
      replace e2 : k = 3 := e2
      subst e1 e2
      exact (numTk_jn m).symm
    · replace e1 : kids = [a] := e1
      subst e1
      replace hkk : k = 7 ∨ k = 13 ∨ k = 14 ∨ k = 19 ∨ k = 27 := hkk
      replace hak : k = 27 ∨ a.kind < 24 := hak
      obtain ⟨a1, a2⟩ := ih a ha
      rcases hkk with rfl | rfl | rfl | rfl | rfl
      · have e : tk (n + 1) (.mk 7 p x m [a]) = [[102, 110], x] ++ ([61, 62] :: tk n a) := rfl
        have e' : txt (n + 1) (.mk 7 p x m [a]) = [102, 110, 32] ++ x ++ [32, 61, 62, 32] ++ txt n a := rfl
        rw [e, e']
        refine ⟨by simp, ?_⟩
        rw [jn_append _ _ (by simp) (by simp), jn_cons _ _ (by simp), jn_one, jn_cons _ _ a1, a2]
        simp
      · obtain ⟨i1, i2⟩ := in_jn ih ha 6 (by omega)
        have e : tk (n + 1) (.mk 13 p x m [a]) = [[102, 115, 116]] ++ inP (tk n) a 6 := rfl
        have e' : txt (n + 1) (.mk 13 p x m [a]) = [102, 115, 116, 32] ++ inT (txt n) a 6 := rfl
        rw [e, e']
        refine ⟨by simp, ?_⟩
        rw [jn_append _ _ (by simp) i1, jn_one, i2]
        simp
      · obtain ⟨i1, i2⟩ := in_jn ih ha 6 (by omega)
        have e : tk (n + 1) (.mk 14 p x m [a]) = [[115, 110, 100]] ++ inP (tk n) a 6 := rfl
        have e' : txt (n + 1) (.mk 14 p x m [a]) = [115, 110, 100, 32] ++ inT (txt n) a 6 := rfl
        rw [e, e']
        refine ⟨by simp, ?_⟩
        rw [jn_append _ _ (by simp) i1, jn_one, i2]
        simp
      · obtain ⟨i1, i2⟩ := in_jn ih ha 6 (by omega)
        have e : tk (n + 1) (.mk 19 p x m [a]) = [[100, 111], x] ++ inP (tk n) a 6 := rfl
        have e' : txt (n + 1) (.mk 19 p x m [a]) = [100, 111, 32] ++ x ++ [32] ++ inT (txt n) a 6 := rfl
        rw [e, e']
        refine ⟨by simp, ?_⟩
        rw [jn_append _ _ (by simp) i1, jn_cons _ _ (by simp), jn_one, i2]
        simp
      · obtain ⟨i1, i2⟩ := in_jn ih ha 2 (by omega)
        have e : tk (n + 1) (.mk 27 p x m [a]) = inP (tk n) a 2 ++ [[108, 105, 115, 116]] := rfl
        have e' : txt (n + 1) (.mk 27 p x m [a]) = inT (txt n) a 2 ++ [32, 108, 105, 115, 116] := rfl
        rw [e, e']
        refine ⟨by simp, ?_⟩
        rw [jn_append _ _ i1 (by simp), jn_one, i2]
        simp
    · replace e1 : kids = [a, b] := e1
      subst e1
      replace hkk : k = 8 ∨ (k = 9 ∧ m ≠ 1) ∨ k = 10 ∨ k = 12 ∨ k = 16 ∨ (k = 18 ∧ (x = [43] ∨ x = [45] ∨ x = [42] ∨ x = [60] ∨ x = [61, 61])) ∨ k = 28 := hkk
      replace hak : k = 28 ∨ (a.kind < 24 ∧ b.kind < 24) := hak
      obtain ⟨a1, a2⟩ := ih a ha
      obtain ⟨b1, b2⟩ := ih b hb
      rcases hkk with rfl | ⟨rfl, hm⟩ | rfl | rfl | rfl | ⟨rfl, hs⟩ | rfl
      · obtain ⟨i1, i2⟩ := in_jn ih ha 6 (by omega)
        obtain ⟨j1, j2⟩ := in_jn ih hb 6 (by omega)
        have e : tk (n + 1) (.mk 8 p x m [a, b]) = (if a.kind = 8 then tk n a else inP (tk n) a 6) ++ inP (tk n) b 6 := rfl
        have e' : txt (n + 1) (.mk 8 p x m [a, b]) = (if a.kind = 8 then txt n a else inT (txt n) a 6) ++ [32] ++ inT (txt n) b 6 := rfl
        rw [e, e']
        by_cases h8 : a.kind = 8
        · rw [if_pos h8, if_pos h8]
          exact ⟨by simp [a1], by rw [jn_append _ _ a1 j1, a2, j2]⟩
        · rw [if_neg h8, if_neg h8]
          exact ⟨by simp [i1], by rw [jn_append _ _ i1 j1, i2, j2]⟩
      · have e : tk (n + 1) (.mk 9 p x m [a, b]) = ([[108, 101, 116]] ++ [x] ++ ([61] :: tk n a)) ++ ([105, 110] :: tk n b) := by
          have : tk (n + 1) (.mk 9 p x m [a, b]) = if m = 1 then ([[108, 101, 116]] ++ [[114, 101, 99]] ++ [x] ++ [a.name] ++ ([61] :: tk n (kid0 a))) ++ ([105, 110] :: tk n b) else ([[108, 101, 116]] ++ [x] ++ ([61] :: tk n a)) ++ ([105, 110] :: tk n b) := rfl
          rw [this, if_neg hm]
        have e' : txt (n + 1) (.mk 9 p x m [a, b]) = [108, 101, 116, 32] ++ x ++ [32, 61, 32] ++ txt n a ++ [32, 105, 110, 32] ++ txt n b := by
          have : txt (n + 1) (.mk 9 p x m [a, b]) = if m = 1 then [108, 101, 116, 32, 114, 101, 99, 32] ++ x ++ [32] ++ (a.name ++ [32, 61, 32] ++ txt n (kid0 a)) ++ [32, 105, 110, 32] ++ txt n b else [108, 101, 116, 32] ++ x ++ [32, 61, 32] ++ txt n a ++ [32, 105, 110, 32] ++ txt n b := rfl
          rw [this, if_neg hm]
        rw [e, e']
        refine ⟨by simp, ?_⟩
        rw [jn_append _ _ (by simp) (by simp), jn_append _ _ (by simp) (by simp), jn_append _ _ (by simp) (by simp), jn_one, jn_one, jn_cons _ _ a1, jn_cons _ _ b1, a2, b2]
        simp
      · have e : tk (n + 1) (.mk 10 p x m [a, b]) = inP (tk n) a 1 ++ [[59]] ++ tk n b := rfl
        have e' : txt (n + 1) (.mk 10 p x m [a, b]) = inT (txt n) a 1 ++ [32, 59, 32] ++ txt n b := rfl
        rw [e, e']
        exact two_jn [59] (in_jn ih ha 1 (by omega)) (ih b hb)
      · have e : tk (n + 1) (.mk 12 p x m [a, b]) = ([40] :: tk n a) ++ ([44] :: tk n b) ++ [[41]] := rfl
        have e' : txt (n + 1) (.mk 12 p x m [a, b]) = [40, 32] ++ txt n a ++ [32, 44, 32] ++ txt n b ++ [32, 41] := rfl
        rw [e, e']
        refine ⟨by simp, ?_⟩
        rw [jn_append _ _ (by simp) (by simp), jn_append _ _ (by simp) (by simp), jn_one, jn_cons _ _ a1, jn_cons _ _ b1, a2, b2]
        simp
      · have e : tk (n + 1) (.mk 16 p x m [a, b]) = inP (tk n) a 3 ++ [[58, 58]] ++ inP (tk n) b 2 := rfl
        have e' : txt (n + 1) (.mk 16 p x m [a, b]) = inT (txt n) a 3 ++ [32, 58, 58, 32] ++ inT (txt n) b 2 := rfl
        rw [e, e']
        exact two_jn [58, 58] (in_jn ih ha 3 (by omega)) (in_jn ih hb 2 (by omega))
      · have e : tk (n + 1) (.mk 18 p x m [a, b]) = opTk x (tk n) a b := rfl
        have e' : txt (n + 1) (.mk 18 p x m [a, b]) = (if levD 18 x = 1 then inT (txt n) a 2 ++ [32] ++ x ++ [32] ++ inT (txt n) b 2 else if levD 18 x = 3 then inT (txt n) a 3 ++ [32] ++ x ++ [32] ++ inT (txt n) b 4 else inT (txt n) a 4 ++ [32] ++ x ++ [32] ++ inT (txt n) b 5) := rfl
        rw [e, e']
        rcases hs with rfl | rfl | rfl | rfl | rfl
        · have := two_jn [43] (in_jn ih ha 3 (by omega)) (in_jn ih hb 4 (by omega))
          simpa [opTk, levD] using this
        · have := two_jn [45] (in_jn ih ha 3 (by omega)) (in_jn ih hb 4 (by omega))
          simpa [opTk, levD] using this
        · have := two_jn [42] (in_jn ih ha 4 (by omega)) (in_jn ih hb 5 (by omega))
          simpa [opTk, levD] using this
        · have := two_jn [60] (in_jn ih ha 2 (by omega)) (in_jn ih hb 2 (by omega))
          simpa [opTk, levD] using this
        · have := two_jn [61, 61] (in_jn ih ha 2 (by omega)) (in_jn ih hb 2 (by omega))
          simpa [opTk, levD] using this
      · have e : tk (n + 1) (.mk 28 p x m [a, b]) = inP (tk n) a 2 ++ [[42]] ++ inP (tk n) b 1 := rfl
        have e' : txt (n + 1) (.mk 28 p x m [a, b]) = inT (txt n) a 2 ++ [32, 42, 32] ++ inT (txt n) b 1 := rfl
        rw [e, e']
        exact two_jn [42] (in_jn ih ha 2 (by omega)) (in_jn ih hb 1 (by omega))
    · replace e1 : k = 9 := e1
      replace e2 : m = 1 := e2
      replace e3 : kids = [f, b] := e3
      subst e1 e2 e3
      obtain ⟨a1, a2⟩ := ih a ha
      obtain ⟨b1, b2⟩ := ih b hb
      have hk0 : kid0 f = a := by simp [kid0, hfa]
      have e : tk (n + 1) (.mk 9 p x 1 [f, b]) = ([[108, 101, 116]] ++ [[114, 101, 99]] ++ [x] ++ [f.name] ++ ([61] :: tk n (kid0 f))) ++ ([105, 110] :: tk n b) := rfl
      have e' : txt (n + 1) (.mk 9 p x 1 [f, b]) = [108, 101, 116, 32, 114, 101, 99, 32] ++ x ++ [32] ++ (f.name ++ [32, 61, 32] ++ txt n (kid0 f)) ++ [32, 105, 110, 32] ++ txt n b := rfl
      rw [e, e', hk0]
      refine ⟨by simp, ?_⟩
      rw [jn_append _ _ (by simp) (by simp), jn_append _ _ (by simp) (by simp), jn_append _ _ (by simp) (by simp), jn_append _ _ (by simp) (by simp), jn_append _ _ (by simp) (by simp), jn_one, jn_one, jn_one, jn_one, jn_cons _ _ a1, jn_cons _ _ b1, a2, b2]
      simp
    · replace e1 : k = 11 := e1
      replace e2 : kids = [a, b, c] := e2
      subst e1 e2
      obtain ⟨a1, a2⟩ := ih a ha
      obtain ⟨b1, b2⟩ := ih b hb
      obtain ⟨c1, c2⟩ := ih c hc
      have e : tk (n + 1) (.mk 11 p x m [a, b, c]) = ([105, 102] :: tk n a) ++ ([116, 104, 101, 110] :: tk n b) ++ ([101, 108, 115, 101] :: tk n c) := rfl
      have e' : txt (n + 1) (.mk 11 p x m [a, b, c]) = [105, 102, 32] ++ txt n a ++ [32, 116, 104, 101, 110, 32] ++ txt n b ++ [32, 101, 108, 115, 101, 32] ++ txt n c := rfl
      rw [e, e']
      refine ⟨by simp, ?_⟩
      rw [jn_append _ _ (by simp) (by simp), jn_append _ _ (by simp) (by simp), jn_cons _ _ a1, jn_cons _ _ b1, jn_cons _ _ c1, a2, b2, c2]
      simp
    · replace e1 : k = 17 := e1
      replace e2 : kids = [a, b, c, d, e] := e2
      subst e1 e2
      obtain ⟨a1, a2⟩ := ih a ha
      obtain ⟨b1, b2⟩ := ih b hb
      obtain ⟨c1, c2⟩ := ih e he
      have e3 : tk (n + 1) (.mk 17 p x m [a, b, c, d, e]) = ([99, 97, 115, 101] :: tk n a) ++ [[111, 102], [91], [93]] ++ ([61, 62] :: tk n b) ++ [[124], c.name, [58, 58], d.name] ++ ([61, 62] :: tk n e) ++ [[101, 110, 100]] := rfl
      have e' : txt (n + 1) (.mk 17 p x m [a, b, c, d, e]) = [99, 97, 115, 101, 32] ++ txt n a ++ [32, 111, 102, 32, 91, 32, 93, 32, 61, 62, 32] ++ txt n b ++ [32, 124, 32] ++ c.name ++ [32, 58, 58, 32] ++ d.name ++ [32, 61, 62, 32] ++ txt n e ++ [32, 101, 110, 100] := rfl
      rw [e3, e']
      refine ⟨by simp, ?_⟩
      rw [jn_append _ _ (by simp) (by simp), jn_append _ _ (by simp) (by simp), jn_append _ _ (by simp) (by simp), jn_append _ _ (by simp) (by simp), jn_append _ _ (by simp) (by simp), jn_cons _ _ a1, jn_cons _ _ b1, jn_cons _ _ c1, a2, b2, c2]
      rw [jn_one, jn_cons [111, 102] _ (by simp), jn_cons [91] _ (by simp), jn_one, jn_cons [124] _ (by simp), jn_cons c.name _ (by simp), jn_cons [58, 58] _ (by simp), jn_one]
      simp
    · replace e1 : k = 20 := e1
      replace e2 : kids = a :: r :: cs := e2
      subst e1 e2
      obtain ⟨a1, a2⟩ := ih a ha
      obtain ⟨b1, b2⟩ := ih e he
      have hk0 : kid0 r = e := by simp [kid0, hre]
      have e3 : tk (n + 1) (.mk 20 p x m (a :: r :: cs)) = ((if m = 1 then [115, 104, 97, 108, 108, 111, 119] else [104, 97, 110, 100, 108, 101]) :: tk n a) ++ [[119, 105, 116, 104]] ++ ([123] :: ([[114, 101, 116, 117, 114, 110], r.name] ++ ([61, 62] :: tk n (kid0 r)))) ++ cs.flatMap (fun q => [124] :: clauseTk (tk n) q) ++ [[125]] := rfl
      have e' : txt (n + 1) (.mk 20 p x m (a :: r :: cs)) = (if m = 1 then [115, 104, 97, 108, 108, 111, 119, 32] else [104, 97, 110, 100, 108, 101, 32]) ++ txt n a ++ [32, 119, 105, 116, 104, 32, 123, 32, 114, 101, 116, 117, 114, 110, 32] ++ r.name ++ [32, 61, 62, 32] ++ txt n (kid0 r) ++ clsT (cs.map (clauseOf (txt n))) ++ [32, 125] := rfl
      rw [e3, e', hk0]
      refine ⟨by simp, ?_⟩
      rw [cls_jn (tk n) (txt n) cs _ (by simp) (fun q hq => by
        obtain ⟨_, y1, y2, z, hz, hwz⟩ := hcs q hq
        have : q.kids.getD 2 Sy.zT = z := by rw [hz]; rfl
        rw [this]
        exact ih z hwz)]
      rw [jn_append _ _ (by simp) (by simp), jn_append _ _ (by simp) (by simp), jn_cons _ _ a1, jn_one, jn_cons _ _ (by simp), jn_append _ _ (by simp) (by simp), jn_cons _ _ (by simp), jn_one, jn_cons _ _ b1, a2, b2]
      by_cases hm : m = 1 <;> simp [hm]
    · replace e1 : k = 29 := e1
      replace e2 : kids = a :: b :: ns := e2
      subst e1 e2
      obtain ⟨i1, i2⟩ := in_jn ih ha 1 (by omega)
      obtain ⟨b1, b2⟩ := ih b hb
      have e : tk (n + 1) (.mk 29 p x m (a :: b :: ns)) = inP (tk n) a 1 ++ arrTk (ns.map Tr.name) ++ tk n b := rfl
      have e' : txt (n + 1) (.mk 29 p x m (a :: b :: ns)) = inT (txt n) a 1 ++ arrT (ns.map Tr.name) ++ txt n b := rfl
      rw [e, e']
      exact ⟨by simp [i1], by rw [arr_jn _ _ _ i1 b1, i2, b2]⟩
    · replace e1 : k = 0 := e1
      replace e2 : kids = its ++ [mn] := e2
      subst e1 e2
      obtain ⟨a1, a2⟩ := ih mn hmn
      have e3 : tk (n + 1) (.mk 0 p x m (its ++ [mn])) = its.flatMap (itemTk (tk n)) ++ [[109, 97, 105, 110]] ++ ([61] :: tk n mn) := by
        have : tk (n + 1) (.mk 0 p x m (its ++ [mn])) = ((its ++ [mn]).dropLast).flatMap (itemTk (tk n)) ++ [[109, 97, 105, 110]] ++ ([61] :: tk n ((its ++ [mn]).getLastD Sy.zT)) := rfl
        rw [this]
        simp
      have e' : txt (n + 1) (.mk 0 p x m (its ++ [mn])) = itsT ((its ++ [mn]).map (itemOf (txt n))) := rfl
      rw [e3, e']
      refine ⟨by simp, its_jn (tk n) (txt n) mn ⟨hm1, hm2⟩ a1 a2 its (fun q hq => ?_)⟩
      rcases hi q hq with ⟨h1, a, b, hab, ha, hb⟩ | ⟨h1, f, a, hf, _, hfa, ha⟩
      · have ea : q.kids.getD 0 Sy.zT = a := by rw [hab]; rfl
        have eb : q.kids.getD 1 Sy.zT = b := by rw [hab]; rfl
        rw [ea, eb]
        exact .inl ⟨h1, ih a ha, ih b hb⟩
      · have ea : kid0 (kid0 q) = a := by simp [kid0, hf, hfa]
        rw [ea]
        exact .inr ⟨h1, ih a ha⟩
/-- What is well made for the program's printer is so for the document's. -/
theorem Wp.wf : ∀ (n : Nat) (t : Tr), Wp n t → Wf n t := by
  intro n
  induction n with
  | zero => intro t ht; exact ht
  | succ n ih =>
    intro t ht
    obtain ⟨hx, ht⟩ := ht
    refine ⟨hx, ?_⟩
    rcases ht with ht | ht | ⟨hkk, a, e1, hak, ha⟩ | ⟨hkk, a, b, e1, hak, ha, hb⟩ | ⟨e1, e2, f, a, b, e3, hf, hfa, ha, hb⟩ | ⟨e1, a, b, c, e2, ha, hb, hc⟩ | ⟨e1, a, b, c, d, e, e2, hc, hd, ha, hb, he⟩ | ⟨e1, hns, a, r, e, cs, e2, hr, hre, ha, he, hcs⟩ | ⟨e1, hns, a, b, ns, e2, ha, hb⟩ | ⟨e1, hns, its, mn, e2, hm1, hm2, hmn, hi⟩
    · exact .inl ht
    · exact .inr (.inl ht)
    · exact .inr (.inr (.inl ⟨hkk, a, e1, ih a ha⟩))
    · refine .inr (.inr (.inr (.inl ⟨?_, a, b, e1, ih a ha, ih b hb⟩)))
      rcases hkk with h | h | h | h | h | ⟨h, hs⟩ | h
      · exact .inl h
      · exact .inr (.inl h)
      · exact .inr (.inr (.inl h))
      · exact .inr (.inr (.inr (.inl h)))
      · exact .inr (.inr (.inr (.inr (.inl h))))
      · refine .inr (.inr (.inr (.inr (.inr (.inl ⟨h, ?_⟩)))))
        rcases hs with hs | hs | hs | hs | hs <;> rw [hs] <;> simp [levD]
      · exact .inr (.inr (.inr (.inr (.inr (.inr h)))))
    · exact .inr (.inr (.inr (.inr (.inl ⟨e1, e2, f, a, b, e3, hf, hfa, ih a ha, ih b hb⟩))))
    · exact .inr (.inr (.inr (.inr (.inr (.inl ⟨e1, a, b, c, e2, ih a ha, ih b hb, ih c hc⟩)))))
    · exact .inr (.inr (.inr (.inr (.inr (.inr (.inl ⟨e1, a, b, c, d, e, e2, hc, hd, ih a ha, ih b hb, ih e he⟩))))))
    · exact .inr (.inr (.inr (.inr (.inr (.inr (.inr (.inl ⟨e1, hns, a, r, e, cs, e2, hre, ih a ha, ih e he, fun q hq => by
        obtain ⟨_, x, y, z, hz, hw⟩ := hcs q hq
        exact ⟨x, y, z, hz, ih z hw⟩⟩)))))))
    · exact .inr (.inr (.inr (.inr (.inr (.inr (.inr (.inr (.inl ⟨e1, hns, a, b, ns, e2, ih a ha, ih b hb⟩))))))))
    · refine .inr (.inr (.inr (.inr (.inr (.inr (.inr (.inr (.inr ⟨e1, hns, by rw [e2]; simp, ?_⟩))))))))
      intro q hq
      rw [e2] at hq
      rcases List.mem_append.1 hq with hq | hq
      · rcases hi q hq with ⟨h1, a, b, hab, ha, hb⟩ | ⟨h1, f, a, hf, hf7, hfa, ha⟩
        · exact .inl ⟨h1, a, b, hab, ih a ha, ih b hb⟩
        · exact .inr (.inl ⟨h1, f, a, hf, hf7, hfa, ih a ha⟩)
      · rw [List.mem_singleton.1 hq]
        exact .inr (.inr ⟨hm1, hm2, ih mn hmn⟩)
end Go.Proofs.YtddnnlldkdljoaaGreatDoor
