/-
  The program's Check, as plain functions, and that they tell what the document's do.
-/
import Derived.Test.YtkfjjkpphpakbaaEn
set_option linter.unusedVariables false
set_option linter.unusedSimpArgs false
namespace Go.Proofs.Ytkfjjkpphpakbaa
namespace Cd

def isSh : List UInt8 → Nat → Bool
  | [], n => n == 0
  | _ :: _, 0 => false
  | c :: l, n + 1 => if leaf c then isSh l n else if c.toNat = 108 then isSh l (n + 1) else if c.toNat = 112 then isSh l (n + 2) else false
theorem isSh_shp : ∀ (l : List UInt8) (n k : Nat), isSh l n = decide (shp l n k = ((k + l.length : Nat) : Int))
  | [], 0, k => by simp [isSh, shp]
  | [], n + 1, k => by
    have h : ¬ ((-1 : Int) = ((k + ([] : List UInt8).length : Nat) : Int)) := by omega
    simp only [isSh, shp, decide_eq_false h]
    simp
  | c :: l, 0, k => by
    have h : ¬ ((k : Int) = ((k + (c :: l).length : Nat) : Int)) := by
      simp only [List.length_cons]
      omega
    simp only [isSh, shp]
    exact (decide_eq_false h).symm
  | c :: l, n + 1, k => by
    unfold isSh shp
    have e : k + (c :: l).length = (k + 1) + l.length := by simp; omega
    rw [e]
    split
    · exact isSh_shp l n (k + 1)
    · split
      · exact isSh_shp l (n + 1) (k + 1)
      · split
        · exact isSh_shp l (n + 2) (k + 1)
        · have h : ¬ ((-1 : Int) = ((k + 1 + l.length : Nat) : Int)) := by omega
          rw [decide_eq_false h]
theorem isSh_leaf {c : UInt8} {l : List UInt8} {n : Nat} (h : c.toNat = 105 ∨ c.toNat = 98 ∨ c.toNat = 117 ∨ c.toNat = 102 ∨ c.toNat = 118) : isSh (c :: l) (n + 1) = isSh l n := by
  have : leaf c = true := by unfold leaf; simp; omega
  simp [isSh, this]
theorem isSh_l {c : UInt8} {l : List UInt8} {n : Nat} (h : c.toNat = 108) : isSh (c :: l) (n + 1) = isSh l (n + 1) := by
  have : leaf c = false := by unfold leaf; simp; omega
  simp [isSh, this, h]
theorem isSh_p {c : UInt8} {l : List UInt8} {n : Nat} (h : c.toNat = 112) : isSh (c :: l) (n + 1) = isSh l (n + 2) := by
  have : leaf c = false := by unfold leaf; simp; omega
  simp [isSh, this, h]
theorem isSh_no {c : UInt8} {l : List UInt8} {n : Nat} (h : c.toNat ≠ 105 ∧ c.toNat ≠ 98 ∧ c.toNat ≠ 117 ∧ c.toNat ≠ 102 ∧ c.toNat ≠ 118 ∧ c.toNat ≠ 108 ∧ c.toNat ≠ 112) : isSh (c :: l) (n + 1) = false := by
  have : leaf c = false := by unfold leaf; simp; omega
  simp [isSh, this, h]
theorem isSh_whole (l : List UInt8) : isSh l 1 = decide (shp l 1 0 = l.length) := by
  have := isSh_shp l 1 0
  simpa using this

/-- Goes on wherever nothing else is known. -/
def flowP (n : Int) : List Int → Kn → Option Kn
  | [], K => some K
  | a :: l, K => match K a with
    | some m => if m = n then flowP n l (K.put a n) else none
    | none => flowP n l (K.put a n)
theorem put_known {K : Kn} {a v b : Int} (h : K b ≠ none) : K.put a v b ≠ none := by
  unfold Kn.put
  split
  · simp
  · exact h
theorem flow1_eq {i : Nat} {n : Int} : ∀ (ts : List Int) (K : Kn), (∀ b : Int, 0 ≤ b → b ≤ i → K b ≠ none) → (∀ a ∈ ts, 0 ≤ a) → flow1 i n ts K = flowP n ts K
  | [], _, _, _ => rfl
  | a :: l, K, hK, ht => by
    unfold flow1 flowP
    have ih := flow1_eq (i := i) (n := n) l (K.put a n) (fun b h0 h1 => put_known (hK b h0 h1)) (fun x hx => ht x (by simp [hx]))
    rw [ih]
    cases hKa : K a with
    | some m => rfl
    | none =>
      have : ¬ a ≤ i := fun h => hK a (ht a (by simp)) h hKa
      rw [if_neg this]
theorem flowP_known {n : Int} : ∀ (ts : List Int) (K K' : Kn) (b : Int), flowP n ts K = some K' → K b ≠ none → K' b ≠ none
  | [], K, K', b, h, hb => by simp [flowP] at h; rw [← h]; exact hb
  | a :: l, K, K', b, h, hb => by
    unfold flowP at h
    split at h
    · split at h
      · exact flowP_known l _ K' b h (put_known hb)
      · cases h
    · exact flowP_known l _ K' b h (put_known hb)
def stepP (C : Code) (x : Ins) (i : Nat) (K : Kn) : Option Kn := match K i with
  | none => none
  | some n => if (takes C x).1 > n ∨ ((x.op = 17 ∨ x.op = 16) ∧ (takes C x).1 ≠ n) then none
    else if n - (takes C x).1 + (takes C x).2 > 4000 then none
    else flowP (n - (takes C x).1 + (takes C x).2) (goes x i) K
def flowPL (C : Code) : List Ins → Nat → Kn → Option Nat × Kn
  | [], _, K => (none, K)
  | x :: l, i, K => match stepP C x i K with
    | none => (some i, K)
    | some K' => flowPL C l (i + 1) K'
theorem goes_pos {x : Ins} {i : Nat} (h : 0 ≤ x.a) : ∀ a ∈ goes x i, 0 ≤ a := by
  intro a ha
  unfold goes at ha
  rw [List.mem_append] at ha
  rcases ha with ha | ha
  · split at ha
    · simp at ha; omega
    · simp at ha
  · split at ha
    · simp at ha; omega
    · simp at ha
theorem flowL_eq {C : Code} : ∀ (l : List Ins) (i : Nat) (K : Kn), (∀ b : Int, 0 ≤ b → b < i → K b ≠ none) → (∀ x ∈ l, 0 ≤ x.a) → flowL C l i K = flowPL C l i K
  | [], _, _, _, _ => rfl
  | x :: l, i, K, hK, hx => by
    unfold flowL flowPL stepP
    cases hKi : K i with
    | none => rfl
    | some n =>
      have hK2 : ∀ b : Int, 0 ≤ b → b ≤ i → K b ≠ none := fun b h0 h1 => by
        by_cases e : b = i
        · rw [e, hKi]; simp
        · exact hK b h0 (by omega)
      have e1 := flow1_eq (i := i) (n := n - (takes C x).1 + (takes C x).2) (goes x i) K hK2 (goes_pos (hx x (by simp)))
      simp only
      split
      · rfl
      · split
        · rfl
        · rw [e1]
          cases hf : flowP (n - (takes C x).1 + (takes C x).2) (goes x i) K with
          | none => rfl
          | some K' =>
            exact flowL_eq l (i + 1) K' (fun b h0 h1 => flowP_known _ K K' b hf (hK2 b h0 (by omega))) (fun y hy => hx y (by simp [hy]))
theorem flowL_start {C : Code} {l : List Ins} (h : ∀ x ∈ l, 0 ≤ x.a) : flowL C l 0 (Kn.put (fun _ => none) 0 0) = flowPL C l 0 (Kn.put (fun _ => none) 0 0) :=
  flowL_eq l 0 _ (fun b h0 h1 => by omega) h
/-- What is learnt of one place. -/
theorem flowP_vals {n : Int} : ∀ (ts : List Int) (K K' : Kn), flowP n ts K = some K' → ∀ a v, K' a = some v → v = n ∨ K a = some v
  | [], K, K', h, a, v, hv => by simp [flowP] at h; subst h; exact .inr hv
  | t :: l, K, K', h, a, v, hv => by
    have key : ∀ K1 : Kn, K1 = K.put t n → flowP n l K1 = some K' → v = n ∨ K a = some v := fun K1 e1 h1 => by
      rcases flowP_vals l K1 K' h1 a v hv with h2 | h2
      · exact .inl h2
      · rw [e1] at h2
        unfold Kn.put at h2
        split at h2
        · cases h2; exact .inl rfl
        · exact .inr h2
    unfold flowP at h
    split at h
    · split at h
      · exact key _ rfl h
      · cases h
    · exact key _ rfl h
theorem puts_eq {C : Code} {x : Ins} (h : fits x.op 22 = true) : (takes C x).2 = if x.op = 4 ∨ x.op = 14 ∨ x.op = 20 ∨ x.op = 19 ∨ x.op = 17 ∨ x.op = 16 ∨ x.op = 18 then 0 else 1 := by
  unfold fits at h
  simp at h
  unfold takes
  by_cases h1 : x.op = 0 ∨ x.op = 1 ∨ x.op = 2 ∨ x.op = 3
  · rw [if_pos h1, if_neg (by omega)]
  · rw [if_neg h1]
    by_cases h2 : x.op = 4 ∨ x.op = 14 ∨ x.op = 20 ∨ x.op = 19 ∨ x.op = 17
    · rw [if_pos h2, if_pos (by omega)]
    · rw [if_neg h2]
      by_cases h3 : x.op = 5 ∨ x.op = 8 ∨ x.op = 12 ∨ x.op = 15
      · rw [if_pos h3, if_neg (by omega)]
      · rw [if_neg h3]
        by_cases h4 : x.op = 6 ∨ x.op = 7 ∨ x.op = 9 ∨ x.op = 10 ∨ x.op = 11 ∨ x.op = 22
        · rw [if_pos h4, if_neg (by omega)]
        · rw [if_neg h4]
          by_cases h5 : x.op = 16
          · rw [if_pos h5, if_pos (by omega)]
          · rw [if_neg h5]
            by_cases h6 : x.op = 13
            · rw [if_pos h6, if_neg (by omega)]
            · rw [if_neg h6]
              by_cases h7 : x.op = 21
              · rw [if_pos h7, if_neg (by omega)]
              · rw [if_neg h7, if_pos (by omega)]
end Cd
end Go.Proofs.Ytkfjjkpphpakbaa
