/-
  The program's bags: times, size.
  The program's bags: size, lacking.
-/
import Derived.Test.YtcogpcalghfghaaUc
import Derived.Lib.Bytealg
set_option linter.unusedVariables false
set_option linter.unusedSimpArgs false
namespace Go.Proofs.Ytcogpcalghfghaa
open Go.RowKit
open Un (Bag bagL addS)

theorem cmp_lt : ∀ (a b : List UInt8), Lib.compareBytes a b < 0 ↔ a < b := by
  intro a
  induction a with
  | nil =>
    intro b
    cases b with
    | nil => simp [Lib.compareBytes]
    | cons y b => simp [Lib.compareBytes]
  | cons x a ih =>
    intro b
    cases b with
    | nil => simp [Lib.compareBytes]
    | cons y b =>
      unfold Lib.compareBytes
      rw [List.cons_lt_cons_iff]
      by_cases h1 : x < y
      · simp [h1]
      · rw [if_neg h1]
        by_cases h2 : y < x
        · have h3 : ¬ x = y := fun e => by subst e; exact h1 h2
          simp [h2, h1, h3]
        · rw [if_neg h2]
          have h3 : x = y := UInt8.le_antisymm (UInt8.not_lt.1 h2) (UInt8.not_lt.1 h1)
          rw [ih b]
          simp [h1, h3]
theorem cmp_eq0 : ∀ (a b : List UInt8), Lib.compareBytes a b = 0 ↔ a = b := by
  intro a
  induction a with
  | nil =>
    intro b
    cases b with
    | nil => simp [Lib.compareBytes]
    | cons y b => simp [Lib.compareBytes]
  | cons x a ih =>
    intro b
    cases b with
    | nil => simp [Lib.compareBytes]
    | cons y b =>
      unfold Lib.compareBytes
      by_cases h1 : x < y
      · have h3 : ¬ x = y := fun e => by subst e; exact absurd h1 (UInt8.lt_irrefl x)
        simp [h1, h3]
      · rw [if_neg h1]
        by_cases h2 : y < x
        · have h3 : ¬ x = y := fun e => by subst e; exact h1 h2
          simp [h2, h3]
        · rw [if_neg h2]
          have h3 : x = y := UInt8.le_antisymm (UInt8.not_lt.1 h2) (UInt8.not_lt.1 h1)
          rw [ih b]
          simp [h3]
def CmpOK : Prop := ∀ (a b : List UInt8) (w : World), Calls Try.prog 51 #[str a, str b] w fun e w' => e = .returned (.int .i64 (Lib.compareBytes a b)) ∧ w' = w

set_option maxHeartbeats 1000000 in
theorem times1_any (hC : CmpOK) (w : World) (s x : List UInt8) (n : Int) :
    Calls Try.prog 59 #[.agg #[str s, .int .i64 n], str x] w fun e w' => e = .returned (.int .i64 (Lib.compareBytes s x)) ∧ w' = w.alloc (.cells #[str s, .int .i64 n] 99) := by
  have HC := fun w => hC s x w
  go_enter Try.func59, Try.ntmps59
  go_wp2_with (go_at_call 51; refine (HC _).mono ?_; clear HC; rintro e w1 ⟨rfl, rfl⟩)
  go_ret
  exact ⟨rfl, rfl⟩
theorem BagV.at {w : World} {g k n c : Nat} {b : Bag} (h : BagV w (.slice (some ⟨g, k, none⟩) n c) b) {i : Nat} {s : Un.Nm × Nat} (hs : b[i]? = some s) : w.cell? ⟨g, k + i * 2, none⟩ = some (str s.1) ∧ w.cell? ⟨g, k + i * 2 + 1, none⟩ = some (.int .i64 (s.2 : Nat)) := by
  obtain ⟨a, c', e, h1⟩ := h
  have hb : b ≠ [] := fun e => by rw [e] at hs; simp at hs
  obtain ⟨g', k', rfl, h2⟩ := h1 hb
  simp only [Value.slice.injEq, Option.some.injEq, Addr.mk.injEq, and_true] at e
  obtain ⟨⟨rfl, rfl⟩, _⟩ := e
  exact h2 i s hs
theorem BagV.some {w : World} {a : Option Addr} {n c : Nat} {b : Bag} (h : BagV w (.slice a n c) b) (hb : 0 < b.length) : n = b.length ∧ ∃ g k, a = some ⟨g, k, none⟩ := by
  obtain ⟨a', c', e, h1⟩ := h
  obtain ⟨g', k', rfl, h2⟩ := h1 (List.length_pos_iff.1 hb)
  simp only [Value.slice.injEq] at e
  exact ⟨e.2.1, g', k', e.1⟩
theorem BagV.sl {w : World} {v : Value} {b : Bag} (h : BagV w v b) : ∃ a c, v = .slice a b.length c := by
  obtain ⟨a, c, e, _⟩ := h
  exact ⟨a, c, e⟩
def FoundB (b : Bag) (x : Un.Nm) (i : Nat) (f : Bool) : Prop := (f = true → ∃ t, b[i]? = some (x, t)) ∧ (f = false → ∀ s ∈ b, s.1 ≠ x)
theorem found_end {b : Bag} {x : Un.Nm} {i : Nat} (hb : Un.BagOK b) (h1 : ∀ j s, j < i → b[j]? = some s → s.1 < x) (h2 : ∀ j s, i ≤ j → b[j]? = some s → ¬ s.1 < x) : (∀ s, b[i]? = some s → s.1 = x → FoundB b x i true) ∧ ((∀ s, b[i]? = some s → s.1 ≠ x) → FoundB b x i false) := by
  refine ⟨fun s hs e => ⟨fun _ => ⟨s.2, by rw [hs, ← e]⟩, fun h => (by cases h)⟩, fun hno => ⟨fun h => (by cases h), fun _ s hs e => ?_⟩⟩
  obtain ⟨j, hj⟩ := List.mem_iff_getElem?.1 hs
  by_cases hji : j < i
  · have := h1 j s hji hj
    rw [e] at this
    exact List.lt_irrefl _ this
  · by_cases hj2 : j = i
    · subst hj2; exact hno s hj e
    · have hjl := (List.getElem?_eq_some_iff.1 hj).1
      have hil : i < b.length := by omega
      have hp := List.pairwise_iff_getElem.1 hb.1 i j hil hjl (by omega)
      have hjs : b[j] = s := (List.getElem?_eq_some_iff.1 hj).2
      rw [hjs, e] at hp
      exact h2 i b[i] (Nat.le_refl _) (by simp) hp

def SearchP (w : World) (b : Bag) (x : Un.Nm) (e : Ending) (w' : World) : Prop := ∃ (i : Nat) (f : Bool), e = .returned (.tuple #[.int .i64 (i : Nat), .bool f]) ∧ FoundB b x i f ∧ i ≤ b.length ∧ Ch (fun _ => False) w w'
set_option maxRecDepth 100000 in
set_option maxHeartbeats 4000000 in
theorem search_any (hC : CmpOK) (w : World) (v : Value) (b : Bag) (x : Un.Nm) (hv : BagV w v b) (hb : Un.BagOK b) (hn : b.length < 1000000000) :
    Calls Try.prog 58 #[v, str x, .func (.func 59) #[] #[]] w fun e w' => SearchP w b x e w' := by
  obtain ⟨a, c, rfl⟩ := hv.sl
  have HT := fun (w : World) (s : List UInt8) (n : Int) => times1_any hC w s x n
  replace hv := hid hv
  replace hb := hid hb
  go_enter Try.func58, Try.ntmps58
  go_wp2
  go_loopg [9, 10] (b.length + 1) (fun q v9 v10 wr => ∃ i j : Nat, v9 = .int .i64 (i : Nat) ∧ v10 = .int .i64 (j : Nat) ∧ i ≤ j ∧ j ≤ b.length ∧ q = j - i + 1 ∧ Hid (∀ l s, l < i → b[l]? = some s → s.1 < x) ∧ Hid (∀ l s, j ≤ l → b[l]? = some s → ¬ s.1 < x) ∧ Hid (Ch (fun _ => False) w wr))
  case atStart => exact ⟨0, b.length, rfl, rfl, by omega, by omega, by omega, fun l s hl => absurd hl (by omega), fun l s hl hs => absurd (List.getElem?_eq_some_iff.1 hs).1 (by omega), Ch.refl _ _⟩
  case round =>
    obtain ⟨i, j, rfl, rfl, hij, hj, rfl, h1, h2, hc⟩ := hrel
    by_cases e : i < j
    · have i1 : (i : Int) < (j : Int) := by omega
      obtain ⟨_, g, k, hsa⟩ := hv.out.some (by omega)
      subst hsa
      obtain ⟨h, hh⟩ : ∃ h : Nat, h = (i + j) / 2 := ⟨_, rfl⟩
      have hw1 : IntKind.i64.wrap ((i : Int) + (j : Int)) = (i : Int) + (j : Int) := IntWalk.i64_in _ (by omega)
      go_upto_region 5 with (fail)
      have hh2 : ((i : Int) + (j : Int)) / 2 = (h : Int) := by omega
      rw [hh2]
      have hhi : i ≤ h := by omega
      have hhj : h < j := by omega
      obtain ⟨s, hs⟩ : ∃ s, b[h]? = some s := ⟨b[h], by simp⟩
      obtain ⟨c0, c1⟩ := (hv.out.keep hc.out (fun _ _ h => h)).at hs
      have k0 : (0 : Int) ≤ h := by omega
      have k1 : (h : Int) < (b.length : Int) := by omega
      have hwh : IntKind.i64.wrap ((h : Int) + 1) = ((h + 1 : Nat) : Int) := by rw [IntWalk.i64_in _ (by omega)]; omega
      have hal := hid (hc.out.trans (al_ch wr (.cells #[str s.1, .int .i64 (s.2 : Nat)] 99)) (fun _ h => h.elim))
      replace hs := hid hs
      clear hh hh2 hw1
      by_cases hlt : s.1 < x
      · have hcm : Lib.compareBytes s.1 x < 0 := (cmp_lt _ _).2 hlt
        go_wp2_with (go_at_call 59; refine (HT _ _ _).mono ?_; clear HT; rintro e w1 ⟨rfl, rfl⟩)
        go_roundg (j - (h + 1) + 1)
        case measure => omega
        case rel =>
          refine ⟨h + 1, j, by simp, rfl, by omega, hj, rfl, fun l t hl ht => ?_, h2, hal⟩
          by_cases e3 : l = h
          · subst e3
            rw [hs.out] at ht
            obtain rfl := Option.some.inj ht
            exact hlt
          · have hll := (List.getElem?_eq_some_iff.1 ht).1
            have hlh : h < b.length := by omega
            have hp := List.pairwise_iff_getElem.1 hb.out.1 l h hll hlh (by omega)
            have e4 : b[l] = t := (List.getElem?_eq_some_iff.1 ht).2
            have e5 : b[h] = s := (List.getElem?_eq_some_iff.1 hs.out).2
            rw [e4, e5] at hp
            exact List.lt_trans hp hlt
      · have hcm : ¬ Lib.compareBytes s.1 x < 0 := fun h3 => hlt ((cmp_lt _ _).1 h3)
        go_wp2_with (go_at_call 59; refine (HT _ _ _).mono ?_; clear HT; rintro e w1 ⟨rfl, rfl⟩)
        go_roundg (h - i + 1)
        case measure => omega
        case rel =>
          refine ⟨i, h, rfl, rfl, hhi, by omega, rfl, h1, fun l t hl ht => ?_, hal⟩
          by_cases e3 : l = h
          · subst e3
            rw [hs.out] at ht
            obtain rfl := Option.some.inj ht
            exact hlt
          · intro htx
            have hll := (List.getElem?_eq_some_iff.1 ht).1
            have hlh : h < b.length := by omega
            have hp := List.pairwise_iff_getElem.1 hb.out.1 h l hlh hll (by omega)
            have e4 : b[l] = t := (List.getElem?_eq_some_iff.1 ht).2
            have e5 : b[h] = s := (List.getElem?_eq_some_iff.1 hs.out).2
            rw [e4, e5] at hp
            exact hlt (List.lt_trans hp htx)
    · obtain rfl : i = j := by omega
      have i1 : ¬ (i : Int) < (i : Int) := by omega
      obtain ⟨f1, f2⟩ := found_end hb.out h1.out h2.out
      replace f1 := hid f1
      replace f2 := hid f2
      by_cases e2 : i < b.length
      · obtain ⟨_, g, k, hsa⟩ := hv.out.some (by omega)
        subst hsa
        obtain ⟨s, hs⟩ : ∃ s, b[i]? = some s := ⟨b[i], by simp⟩
        obtain ⟨c0, c1⟩ := (hv.out.keep hc.out (fun _ _ h => h)).at hs
        have k0 : (0 : Int) ≤ i := by omega
        have k1 : (i : Int) < (b.length : Int) := by omega
        have hal := hid (hc.out.trans (al_ch wr (.cells #[str s.1, .int .i64 (s.2 : Nat)] 99)) (fun _ h => h.elim))
        replace hs := hid hs
        by_cases hx : s.1 = x
        · have hcm : Lib.compareBytes s.1 x = 0 := (cmp_eq0 _ _).2 hx
          replace hx := hid hx
          go_wp2_with (go_at_call 59; refine (HT _ _ _).mono ?_; clear HT; rintro e w1 ⟨rfl, rfl⟩)
          go_ret2
          exact ⟨i, true, by simp, f1.out s hs.out hx.out, hj, hal.out⟩
        · have hcm : ¬ Lib.compareBytes s.1 x = 0 := fun h3 => hx ((cmp_eq0 _ _).1 h3)
          replace hx := hid hx
          go_wp2_with (go_at_call 59; refine (HT _ _ _).mono ?_; clear HT; rintro e w1 ⟨rfl, rfl⟩)
          go_ret2
          exact ⟨i, false, by simp [hcm], f2.out (fun t ht => by rw [hs.out] at ht; obtain rfl := Option.some.inj ht; exact hx.out), hj, hal.out⟩
      · have k1 : ¬ (i : Int) < (b.length : Int) := by omega
        have hno : Hid (∀ s, b[i]? = some s → s.1 ≠ x) := fun s hs => absurd (List.getElem?_eq_some_iff.1 hs).1 (by omega)
        go_wp2
        go_ret2
        exact ⟨i, false, by simp, f2.out hno.out, hj, hc.out⟩
theorem times_of {b : Bag} {x : Un.Nm} {i t : Nat} (hb : Un.BagOK b) (h : b[i]? = some (x, t)) : Un.times b x = t := by
  have h1 := Un.flat_count x hb
  unfold Un.times
  have hm := List.mem_of_getElem? h
  have hf : b.find? (fun s => s.1 == x) = some (x, t) := by
    cases hc : b.find? (fun s => s.1 == x) with
    | none =>
      have := List.find?_eq_none.1 hc (x, t) hm
      simp at this
    | some s =>
      have hs := List.find?_some hc
      have hs1 : s.1 = x := by simpa using hs
      have hsm := List.mem_of_find?_eq_some hc
      obtain ⟨j, hj⟩ := List.mem_iff_getElem?.1 hsm
      by_cases e : j = i
      · subst e; rw [h] at hj; exact hj.symm ▸ rfl
      · have hjl := (List.getElem?_eq_some_iff.1 hj).1
        have hil := (List.getElem?_eq_some_iff.1 h).1
        have ej : b[j] = s := (List.getElem?_eq_some_iff.1 hj).2
        have ei : b[i] = (x, t) := (List.getElem?_eq_some_iff.1 h).2
        rcases Nat.lt_or_gt_of_ne e with hlt | hlt
        · have hp := List.pairwise_iff_getElem.1 hb.1 j i hjl hil hlt
          rw [ej, ei, hs1] at hp
          exact absurd hp (List.lt_irrefl _)
        · have hp := List.pairwise_iff_getElem.1 hb.1 i j hil hjl hlt
          rw [ej, ei, hs1] at hp
          exact absurd hp (List.lt_irrefl _)
  rw [hf]
  rfl
theorem times_no {b : Bag} {x : Un.Nm} (h : ∀ s ∈ b, s.1 ≠ x) : Un.times b x = 0 := by
  unfold Un.times
  have : b.find? (fun s => s.1 == x) = none := by
    rw [List.find?_eq_none]
    intro s hs
    simpa using h s hs
  rw [this]
  rfl
set_option maxRecDepth 100000 in
set_option maxHeartbeats 4000000 in
theorem times_any (hC : CmpOK) (w : World) (v : Value) (b : Bag) (x : Un.Nm) (hv : BagV w v b) (hb : Un.BagOK b) (hn : b.length < 1000000000) :
    Calls Try.prog 48 #[v, str x] w fun e w' => e = .returned (.int .i64 (Un.times b x : Nat)) ∧ Ch (fun _ => False) w w' := by
  have HS := search_any hC w v b x hv hb hn
  obtain ⟨a, c, rfl⟩ := hv.sl
  replace hv := hid hv
  replace hb := hid hb
  go_enter Try.func48, Try.ntmps48
  go_upto_region 2 with (go_at_call 58; refine HS.mono ?_; clear HS; rintro e w1 ⟨i, f, rfl, hf, hi, hc⟩; replace hf := hid hf; replace hc := hid hc)
  cases f with
  | false =>
    have ht := times_no (hf.out.2 rfl)
    go_wp2
    go_ret
    exact ⟨by rw [ht]; rfl, hc.out⟩
  | true =>
    obtain ⟨t, ht⟩ := hf.out.1 (by trivial)
    have hil := (List.getElem?_eq_some_iff.1 ht).1
    obtain ⟨_, g, k, hsa⟩ := hv.out.some (by omega)
    subst hsa
    obtain ⟨c0, c1⟩ := (hv.out.keep hc.out (fun _ _ h => h)).at ht
    have ht2 := times_of hb.out ht
    have k0 : (0 : Int) ≤ i := by omega
    have k1 : (i : Int) < (b.length : Int) := by omega
    clear ht
    go_wp2
    go_ret
    exact ⟨rfl, hc.out⟩
end Go.Proofs.Ytcogpcalghfghaa

namespace Go.Proofs.Ytcogpcalghfghaa
open Go.RowKit
open Un (Bag bagL addS)

def sizeB (b : Bag) : Nat := (b.map (·.2)).sum
theorem sizeB_take {b : Bag} {i : Nat} {s : Un.Nm × Nat} (h : b[i]? = some s) : sizeB (b.take (i + 1)) = sizeB (b.take i) + s.2 := by
  rw [List.take_add_one, h]
  simp [sizeB]
theorem sizeB_le : ∀ (b : Bag) (i : Nat), sizeB (b.take i) ≤ sizeB b := by
  intro b
  induction b with
  | nil => intro i; simp
  | cons s b ih =>
    intro i
    cases i with
    | zero => simp [sizeB]
    | succ i => have := ih i; simp [sizeB] at this ⊢; exact this
set_option maxRecDepth 100000 in
set_option maxHeartbeats 4000000 in
theorem size_any (w : World) (v : Value) (b : Bag) (hv : BagV w v b) (hn : b.length < 1000000000) (hz : sizeB b < 1000000000) :
    Calls Try.prog 39 #[v] w fun e w' => e = .returned (.int .i64 (sizeB b : Nat)) ∧ Ch (fun _ => False) w w' := by
  obtain ⟨a, c, rfl⟩ := hv.sl
  replace hv := hid hv
  go_enter Try.func39, Try.ntmps39
  go_wp2
  go_loopg [3, 8] (b.length + 1) (fun q v3 v8 wr => ∃ i : Nat, v8 = .int .i64 (i : Nat) ∧ v3 = .int .i64 (sizeB (b.take i) : Nat) ∧ i ≤ b.length ∧ q = b.length + 1 - i ∧ Hid (Ch (fun _ => False) w wr))
  case atStart => exact ⟨0, rfl, by simp [sizeB], by omega, by omega, Ch.refl _ _⟩
  case round =>
    obtain ⟨i, rfl, rfl, hi, rfl, hc⟩ := hrel
    by_cases e : i < b.length
    · have i0 : (0 : Int) ≤ i := by omega
      have i1 : (i : Int) < (b.length : Int) := by omega
      obtain ⟨_, g, k, hsa⟩ := hv.out.some (by omega)
      subst hsa
      obtain ⟨s, hs⟩ : ∃ s, b[i]? = some s := ⟨b[i], by simp⟩
      obtain ⟨c0, c1⟩ := (hv.out.keep hc.out (fun _ _ h => h)).at hs
      have hwi : IntKind.i64.wrap ((i : Int) + 1) = (i : Int) + 1 := IntWalk.i64_in _ (by omega)
      have hst := sizeB_take hs
      have hsl := sizeB_le b (i + 1)
      have hws : IntKind.i64.wrap ((sizeB (b.take i) : Int) + (s.2 : Int)) = ((sizeB (b.take i) + s.2 : Nat) : Int) := by rw [IntWalk.i64_in _ (by omega)]; omega
      replace hst := hid hst
      replace hs := hid hs
      go_wp2
      go_roundg (b.length - i)
      case measure => omega
      case rel => exact ⟨i + 1, by simp, by rw [hst.out, Int.natCast_add], by omega, by omega, hid (hc.out.trans (al_ch wr _) (fun _ h => h.elim))⟩
    · obtain rfl : i = b.length := by omega
      have i1 : ¬ (b.length : Int) < (b.length : Int) := by omega
      have ht : b.take b.length = b := List.take_length
      rw [ht]
      go_wp2
      go_ret
      exact ⟨rfl, hc.out⟩
namespace Un
/-- What another bag lacks. -/
def lackB (b o : Bag) : Bag := b.filterMap fun s => if times o s.1 < s.2 then some (s.1, s.2 - times o s.1) else none
theorem lackB_take {b o : Bag} {i : Nat} {s : Nm × Nat} (h : b[i]? = some s) : lackB (b.take (i + 1)) o = lackB (b.take i) o ++ (if times o s.1 < s.2 then [(s.1, s.2 - times o s.1)] else []) := by
  rw [List.take_add_one, h]
  unfold lackB
  rw [List.filterMap_append]
  congr 1
  simp only [Option.toList]
  rw [List.filterMap_cons]
  split <;> rename_i e <;> split at e <;> simp_all
theorem lackB_mem {b o : Bag} {p : Nm × Nat} (h : p ∈ lackB b o) : ∃ s ∈ b, s.1 = p.1 ∧ times o s.1 < s.2 ∧ p.2 = s.2 - times o s.1 := by
  unfold lackB at h
  obtain ⟨s, hs, e⟩ := List.mem_filterMap.1 h
  split at e
  · rename_i hlt
    obtain rfl := Option.some.inj e
    exact ⟨s, hs, rfl, hlt, rfl⟩
  · cases e
theorem lackB_ok {b o : Bag} (h : BagOK b) : BagOK (lackB b o) := by
  refine ⟨?_, fun p hp => ?_⟩
  · unfold lackB
    refine List.Pairwise.filterMap (R := fun s t => s.1 < t.1) _ ?_ h.1
    intro s t hst x hx y hy
    split at hx
    · split at hy
      · cases hx; cases hy; exact hst
      · cases hy
    · cases hx
  · obtain ⟨s, _, _, h1, h2⟩ := lackB_mem hp
    omega
theorem lackB_len (b o : Bag) : (lackB b o).length ≤ b.length := List.length_filterMap_le _ _
theorem lackB_flat {b o : Bag} (hb : BagOK b) (ho : BagOK o) : flat (lackB b o) = less (flat b) (flat o) := by
  refine (less_eq (flat_srt hb) (flat_srt (lackB_ok hb)) (fun x => ?_)).symm
  rw [flat_count x (lackB_ok hb), flat_count x hb, flat_count x ho]
  by_cases hx : ∃ t, (x, t) ∈ b
  · obtain ⟨t, ht⟩ := hx
    obtain ⟨i, hi⟩ := List.mem_iff_getElem?.1 ht
    rw [Go.Proofs.Ytcogpcalghfghaa.times_of hb hi]
    by_cases hlt : times o x < t
    · have hm : (x, t - times o x) ∈ lackB b o := by
        unfold lackB
        exact List.mem_filterMap.2 ⟨(x, t), ht, by simp only; rw [if_pos hlt]⟩
      obtain ⟨j, hj⟩ := List.mem_iff_getElem?.1 hm
      exact Go.Proofs.Ytcogpcalghfghaa.times_of (lackB_ok hb) hj
    · rw [Go.Proofs.Ytcogpcalghfghaa.times_no (fun s hs e => ?_)]
      · omega
      · obtain ⟨s', hs', e1, e2, _⟩ := lackB_mem hs
        obtain ⟨j, hj⟩ := List.mem_iff_getElem?.1 hs'
        have h1 : times b s'.1 = s'.2 := Go.Proofs.Ytcogpcalghfghaa.times_of hb (x := s'.1) (t := s'.2) hj
        rw [e1, e, Go.Proofs.Ytcogpcalghfghaa.times_of hb hi] at h1
        rw [e1, e] at e2
        omega
  · rw [Go.Proofs.Ytcogpcalghfghaa.times_no (b := b) (fun s hs e => hx ⟨s.2, by rw [← e]; exact hs⟩), Go.Proofs.Ytcogpcalghfghaa.times_no (fun s hs e => ?_)]
    · omega
    · obtain ⟨s', hs', e1, _, _⟩ := lackB_mem hs
      exact hx ⟨s'.2, by rw [← e, ← e1]; exact hs'⟩
end Un

set_option maxRecDepth 100000 in
set_option maxHeartbeats 8000000 in
theorem lacking_any (hC : CmpOK) (w : World) (v u : Value) (b o : Bag) (hv : BagV w v b) (hu : BagV w u o) (hb : Un.BagOK b) (ho : Un.BagOK o) (hn : b.length < 1000000000) (hno : o.length < 1000000000) (hz : ∀ s ∈ b, s.2 < 1000000000) (hzo : ∀ x, Un.times o x < 1000000000) :
    Calls Try.prog 37 #[v, u] w fun e w' => ∃ v', e = .returned v' ∧ BagF w w' v' (Un.lackB b o) := by
  obtain ⟨a, c, rfl⟩ := hv.sl
  obtain ⟨a2, c2, rfl⟩ := hu.sl
  replace hv := hid hv
  replace hu := hid hu
  replace ho := hid ho
  replace hz := hid hz
  replace hzo := hid hzo
  have hb0 : Hid (BagF w w (.slice none 0 0) (Un.lackB (b.take 0) o)) := by
    have : Un.lackB (b.take 0) o = [] := by simp [Un.lackB]
    unfold Hid
    rw [this]
    exact BagF.nil w
  go_enter Try.func37, Try.ntmps37
  go_wp2
  go_loopg [5, 11] (b.length + 1) (fun q v5 v11 wr => ∃ i : Nat, v11 = .int .i64 (i : Nat) ∧ i ≤ b.length ∧ q = b.length + 1 - i ∧ Hid (BagF w wr v5 (Un.lackB (b.take i) o)))
  case atStart => exact ⟨0, rfl, by omega, by omega, hb0⟩
  case round =>
    obtain ⟨i, rfl, hi, rfl, hB⟩ := hrel
    have hc := hid hB.out.2.1
    by_cases e : i < b.length
    · have i0 : (0 : Int) ≤ i := by omega
      have i1 : (i : Int) < (b.length : Int) := by omega
      obtain ⟨_, g, k, hsa⟩ := hv.out.some (by omega)
      subst hsa
      obtain ⟨s, hs⟩ : ∃ s, b[i]? = some s := ⟨b[i], by simp⟩
      obtain ⟨c0, c1⟩ := (hv.out.keep hc.out (fun _ _ h => h)).at hs
      have hwi : IntKind.i64.wrap ((i : Int) + 1) = (i : Int) + 1 := IntWalk.i64_in _ (by omega)
      have hnext := hid (Un.lackB_take (o := o) hs)
      have hs2 := hz.out s (List.mem_of_getElem? hs)
      have ht2 := hzo.out s.1
      have hlb : (Un.lackB (b.take i) o).length < 1000000000 := by
        have := Un.lackB_len (b.take i) o
        simp at this
        omega
      replace hs := hid hs
      go_upto_region 5 with (fail)
      clear c0 c1
      have hbx := World.alloc_heap_new wr (.cells #[str s.1, .int .i64 (s.2 : Nat)] 99)
      have x0 : (wr.alloc (.cells #[str s.1, .int .i64 (s.2 : Nat)] 99)).cell? ⟨wr.heap.size, 0, none⟩ = some (str s.1) := by unfold World.cell?; rw [hbx]; rfl
      have x1 : (wr.alloc (.cells #[str s.1, .int .i64 (s.2 : Nat)] 99)).cell? ⟨wr.heap.size, 1, none⟩ = some (.int .i64 (s.2 : Nat)) := by unfold World.cell?; rw [hbx]; rfl
      have hca := hid (al_ch wr (.cells #[str s.1, .int .i64 (s.2 : Nat)] 99))
      generalize wr.alloc (.cells #[str s.1, .int .i64 (s.2 : Nat)] 99) = W at *
      have hcd := hid (hca.out.trans (Ch.drew (fun _ => False) W) (fun _ h => h.elim))
      have HT := times_any hC W.drew (.slice a2 o.length c2) o s.1 (hu.out.keep (hc.out.trans hcd.out (fun _ h => h.elim)) (fun _ _ h => h)) ho.out hno
      clear hbx
      refine wp_region_held_drew (S := (fun w' => w'.cell? ⟨wr.heap.size, 0, none⟩ = some (str s.1) ∧ w'.cell? ⟨wr.heap.size, 1, none⟩ = some (.int .i64 (s.2 : Nat)))) (by kernel_rfl) (by first | trivial | ((try dsimp only); go_keep)) (fun hHeld => ?_)
      refine wpAnyH_take (i := 0) (v := ?vvu1) rfl (by kernel_rfl) (by kernel_rfl) (by kernel_rfl) (fun _ _ _ h => h) (Or.inl ⟨by rfl, ?yyu1⟩) (by assumption) ?rru1
      case yyu1 => (intro w' hSw; (try dsimp only at hSw); go_simp; (try with_reducible rfl))
      try simp only [Act.put, List.setIfInBounds_toArray, List.set_cons_zero, List.set_cons_succ]
      refine wpAnyH_take (i := 1) (v := ?vvu2) rfl (by kernel_rfl) (by kernel_rfl) (by kernel_rfl) (fun _ _ _ h => h) (Or.inl ⟨by rfl, ?yyu2⟩) (by assumption) ?rru2
      case yyu2 => (intro w' hSw; (try dsimp only at hSw); go_simp; (try with_reducible rfl))
      try simp only [Act.put, List.setIfInBounds_toArray, List.set_cons_zero, List.set_cons_succ]
      refine wpAnyH_take (i := 2) (v := ?vvu3) rfl (by kernel_rfl) (by kernel_rfl) (by kernel_rfl) (fun _ _ _ h => h) (Or.inl ⟨by rfl, ?yyu3⟩) (by assumption) ?rru3
      case yyu3 => (intro w' hSw; (try dsimp only at hSw); go_simp; (try with_reducible rfl))
      try simp only [Act.put, List.setIfInBounds_toArray, List.set_cons_zero, List.set_cons_succ]
      refine wpAnyH_take (i := 3) (v := ?vvu4) rfl (by kernel_rfl) (by kernel_rfl) (by kernel_rfl) (fun _ _ _ h => h) (Or.inl ⟨by rfl, ?yyu4⟩) (by assumption) ?rru4
      case yyu4 => (intro w' hSw; (try dsimp only at hSw); go_simp; (try with_reducible rfl))
      try simp only [Act.put, List.setIfInBounds_toArray, List.set_cons_zero, List.set_cons_succ]
      refine wpAnyH_take (i := 4) (v := ?vvu5) rfl (by kernel_rfl) (by kernel_rfl) (by kernel_rfl) (fun _ _ _ h => h) (Or.inl ⟨by rfl, ?yyu5⟩) (by assumption) ?rru5
      case yyu5 => (intro w' hSw; (try dsimp only at hSw); go_simp; (try with_reducible rfl))
      try simp only [Act.put, List.setIfInBounds_toArray, List.set_cons_zero, List.set_cons_succ]
      refine wpAnyH_ready (rs := [5]) (by kernel_rfl) (by simp) (AllReadyH.cons rfl (fun K hK => ?_) AllReadyH.nil)
      go_simp
      refine HT.mono ?_
      clear HT
      rintro e w3 ⟨rfl, hc3⟩
      have hS5 := And.intro (cell_ch hc3 x0 (fun h => h)) (cell_ch hc3 x1 (fun h => h))
      have hS6 := hS5
      replace hc3 := hid hc3
      dsimp only
      clear hHeld
      refine hK.out _ _ ?hs (fun hHeld => ?_)
      case hs => (first | exact hS5 | trivial | ((try dsimp only); go_keep) | ((try dsimp only); simp [*, World.cell?_alloc_some, World.cell?_setCell_far, World.cell?_setCell_other]))
      clear hK K
      try simp only [Act.put, List.setIfInBounds_toArray, List.set_cons_zero, List.set_cons_succ]
      refine wpAnyH_take (i := 6) (v := ?vvu6) rfl (by kernel_rfl) (by kernel_rfl) (by kernel_rfl) (fun _ _ _ h => h) (Or.inl ⟨by rfl, ?yyu6⟩) (by assumption) ?rru6
      case yyu6 => (intro w' hSw; (try dsimp only at hSw); go_simp; (try with_reducible rfl))
      try simp only [Act.put, List.setIfInBounds_toArray, List.set_cons_zero, List.set_cons_succ]
      refine wpAnyH_take (i := 7) (v := ?vvu7) rfl (by kernel_rfl) (by kernel_rfl) (by kernel_rfl) (fun _ _ _ h => h) (Or.inl ⟨by rfl, ?yyu7⟩) (by assumption) ?rru7
      case yyu7 => (intro w' hSw; (try dsimp only at hSw); go_simp; (try with_reducible rfl))
      try simp only [Act.put, List.setIfInBounds_toArray, List.set_cons_zero, List.set_cons_succ]
      refine wpAnyH_done (by kernel_rfl) ?_ _
      clear hHeld
      have hcw := hid (hcd.out.trans hc3.out (fun _ h => h.elim))
      obtain ⟨y0, y1⟩ := hS6
      have hB3 := hid (hB.out.quiet hcw.out)
      clear hS5 x0 x1 hca hcd hc3
      have hws : IntKind.i64.wrap ((s.2 : Int) - (Un.times o s.1 : Int)) = (s.2 : Int) - (Un.times o s.1 : Int) := IntWalk.i64_in _ (by omega)
      by_cases hlt : Un.times o s.1 < s.2
      · have hgt : 0 < s.2 - Un.times o s.1 := by omega
        have hev : (s.2 : Int) - (Un.times o s.1 : Int) = ((s.2 - Un.times o s.1 : Nat) : Int) := by omega
        have hBa := hid (hB3.out.quiet (al_ch w3 (.cells #[str s.1, .int .i64 ((s.2 - Un.times o s.1 : Nat) : Int)] 99)))
        have hrw := hBa.out.1
        go_wp2_with (at_builtin; go_must (refine list_append rfl (.tmp 24) (.tmp 29) 73 rfl 99 _ 2 24 Try.underlying73 Try.infoShare rfl (by decide) _ _ _ rfl hrw ⟨_, 0, none⟩ 1 1 [str s.1, .int .i64 ((s.2 - Un.times o s.1 : Nat) : Int)] rfl rfl (new_share w3 s.1 _) (by simp [Value.oneCell']) (by unfold maxLen; omega) (by omega) ?_); intro v' w4 hrow hgrow hblk)
        have hB4 := hid (hBa.out.more (s := (s.1, s.2 - Un.times o s.1)) hrow hgrow hblk)
        go_roundg (b.length - i)
        case measure => omega
        case rel => exact ⟨i + 1, by simp, by omega, by omega, hid (by rw [hnext.out, if_pos hlt]; exact hB4.out)⟩
      · have hgt : ¬ (0 : Int) < (s.2 : Int) - (Un.times o s.1 : Int) := by omega
        go_wp2
        go_roundg (b.length - i)
        case measure => omega
        case rel => exact ⟨i + 1, by simp, by omega, by omega, hid (by rw [hnext.out, if_neg hlt, List.append_nil]; exact hB3.out)⟩
    · obtain rfl : i = b.length := by omega
      have i1 : ¬ (b.length : Int) < (b.length : Int) := by omega
      rw [List.take_length] at hB
      obtain ⟨va, vc, hv3, _⟩ := row_slice hB.out.1
      subst hv3
      go_wp2
      go_ret
      exact ⟨_, rfl, hB.out⟩
end Go.Proofs.Ytcogpcalghfghaa
