/-
  Regions that draw their order, within a round of a range over a function: what only reads is walked once, in the order of the text; the rest behind it.
-/
import Derived.Test.YtcogpcalghfghaaOa
import Derived.Sort.QuietIn
import Derived.Shelf.RegionOpen
import Derived.Sort.BigQuietIn
set_option linter.unusedVariables false
set_option linter.unusedSimpArgs false
namespace Go.Proofs.Ytcogpcalghfghaa
open Go.RowKit

section
variable {n : Nat} {P : Program} {ops : Array Oper} {Q : Exit → Act → World → Prop} {md : Region.Mode}

def Clsd (md : Region.Mode) (ops : Array Oper) (listed : Array Bool) : Prop := ∀ j o, ops[j]? = some o → listed.getD j false = true → ∀ e ∈ o.after, Region.binds md e = true → listed.getD e.on false = true
theorem Clsd.none : Clsd md ops (Array.replicate ops.size false) := fun j o _ h => by
  exfalso
  simp [Array.getElem?_replicate] at h
  split at h <;> simp at h
theorem Clsd.step {listed : Array Bool} (h : Clsd md ops listed) {i : Nat} (hi : i ∈ Region.ready md ops listed) : Clsd md ops (listed.setIfInBounds i true) := by
  obtain ⟨_, o, ho, hall⟩ := mem_ready.1 hi
  intro j oj hj hl e he hb
  by_cases hji : i = j
  · subst hji
    obtain rfl := Option.some.inj (ho.symm.trans hj)
    exact getD_set_true (hall e he hb)
  · rw [getD_set_ne false hji] at hl
    exact getD_set_true (h j oj hj hl e he hb)
def dirs (md : Region.Mode) (ops : Array Oper) (t : Nat) : List Nat := match ops[t]? with
  | none => []
  | some o => (o.after.toList.filter (Region.binds md ·)).map (·.on)
def clo (md : Region.Mode) (ops : Array Oper) : Nat → List Nat → List Nat
  | 0, S => S
  | f + 1, S => clo md ops f (S ++ (S.flatMap (dirs md ops)).filter fun x => !S.contains x)
theorem clo_listed {listed : Array Bool} (h : Clsd md ops listed) : ∀ (f : Nat) (S : List Nat), (∀ x ∈ S, listed.getD x false = true) → ∀ x ∈ clo md ops f S, listed.getD x false = true
  | 0, _, hS => hS
  | f + 1, S, hS => by
    refine clo_listed h f _ (fun x hx => ?_)
    rcases List.mem_append.1 hx with hx | hx
    · exact hS x hx
    · obtain ⟨y, hy, hx⟩ := List.mem_flatMap.1 (List.mem_filter.1 hx).1
      unfold dirs at hx
      split at hx
      · cases hx
      · rename_i o ho
        obtain ⟨e, he, rfl⟩ := List.mem_map.1 hx
        obtain ⟨he, hb⟩ := List.mem_filter.1 he
        exact h y o ho (hS y hy) e (by simpa using he) hb
/-- Each operation behind the first so many waits for all of them. -/
def waitsB (md : Region.Mode) (ops : Array Oper) (cnt : Nat) (listed : Array Bool) : Bool := (List.range ops.size).all fun t => decide (t < cnt) || listed.getD t true || (List.range cnt).all fun i => (clo md ops 14 (dirs md ops t)).contains i
theorem waits_ready {cnt : Nat} {listed0 listed : Array Bool} (hB : waitsB md ops cnt listed0 = true) (h : Clsd md ops listed) {t : Nat} (ht : t ∈ Region.ready md ops listed) (h0 : listed0.getD t true = false) (hc : cnt ≤ t) : ∀ i, i < cnt → listed.getD i false = true := by
  intro i hi
  obtain ⟨_, o, ho, hall⟩ := mem_ready.1 ht
  have hl := (Array.getElem?_eq_some_iff.1 ho).1
  have h1 := List.all_eq_true.1 hB t (List.mem_range.2 hl)
  rw [h0, Bool.or_false, Bool.or_eq_true] at h1
  rcases h1 with h1 | h1
  · have := of_decide_eq_true h1
    omega
  · have h2 := List.all_eq_true.1 h1 i (List.mem_range.2 hi)
    refine clo_listed h 14 (dirs md ops t) (fun x hx => ?_) i (by simpa using h2)
    unfold dirs at hx
    rw [ho] at hx
    obtain ⟨e, he, rfl⟩ := List.mem_map.1 hx
    obtain ⟨he, hb⟩ := List.mem_filter.1 he
    exact hall e (by simpa using he) hb
def lexPre (md : Region.Mode) (ops : Array Oper) : Nat → Nat → Array Bool → Bool
  | 0, _, _ => true
  | c + 1, k, listed => (Region.ready md ops listed).contains k && Region.free md ops listed k && lexPre md ops c (k + 1) (listed.setIfInBounds k true)

/-- Whatever order is picked of the first ones. -/
def wpAnyP (F : Fence) (n : Nat) (P : Program) (md : Region.Mode) (ops : Array Oper) (C : World → Prop) (E : Array Bool → Act → Prop) (cnt : Nat) : Nat → Array Bool → Act → Prop
  | 0, listed, a => E listed a
  | m + 1, listed, a => Region.ready md ops listed ≠ [] ∧ ∀ i ∈ Region.ready md ops listed, i < cnt → qOpIn F n P ops C i (wpAnyP F n P md ops C E cnt m (listed.setIfInBounds i true)) a
variable {F : Fence} {C : World → Prop} {cnt : Nat} {E : Array Bool → Act → Prop}
/-- How many of the first ones are left. -/
def leftN (cnt : Nat) (listed : Array Bool) : Nat := ((List.range cnt).filter fun i => !listed.getD i false).length
theorem leftN_set {listed : Array Bool} {i : Nat} (hi : i < cnt) (hl : listed.getD i true = false) : leftN cnt (listed.setIfInBounds i true) + 1 = leftN cnt listed := by
  unfold leftN
  have hsz : i < listed.size := by
    rcases Nat.lt_or_ge i listed.size with h | h
    · exact h
    · simp [Array.getElem?_eq_none h] at hl
  have hlf : listed.getD i false = false := by simp [hsz] at hl ⊢; exact hl
  induction cnt with
  | zero => omega
  | succ c ih =>
    rw [List.range_succ, List.filter_append, List.filter_append, List.length_append, List.length_append]
    by_cases e : i = c
    · subst e
      have e1 : ∀ x ∈ List.range i, (!(listed.setIfInBounds i true).getD x false) = (!listed.getD x false) := fun x hx => by
        have := List.mem_range.1 hx
        rw [getD_set_ne false (by omega)]
      rw [List.filter_congr e1]
      have e2 : (listed.setIfInBounds i true).getD i false = true := by simp [hsz]
      simp only [List.filter_cons, List.filter_nil, hlf, e2]
      simp
    · have := ih (by omega)
      rw [← this]
      simp only [List.filter_cons, List.filter_nil, getD_set_ne false e]
      omega
theorem wpAnyIn_of_P (hro : F.round = none) {listed0 : Array Bool} {fuel0 : Nat} (hB : waitsB md ops cnt listed0 = true) : ∀ (m : Nat) (listed : Array Bool) (a : Act) (w : World), C w → Clsd md ops listed → leftN cnt listed = m → (∀ t, cnt ≤ t → listed.getD t true = false → listed0.getD t true = false) →
    wpAnyP F n P md ops C (fun listed a => ∀ w, C w → wpAnyIn F n P md ops Q fuel0 listed a w) cnt m listed a → wpAnyIn F n P md ops Q (m + fuel0) listed a w
  | 0, listed, a, w, hw, _, _, _, h => by rw [Nat.zero_add]; exact h w hw
  | m + 1, listed, a, w, hw, hc, hm, hk, h => by
    rw [show m + 1 + fuel0 = (m + fuel0) + 1 by omega]
    refine ⟨fun h0 => absurd h0 h.1, fun i hi => ?_⟩
    obtain ⟨hun, o, ho, hall⟩ := mem_ready.1 hi
    have hic : i < cnt := by
      rcases Nat.lt_or_ge i cnt with h1 | h1
      · exact h1
      · exfalso
        have h2 := waits_ready hB hc hi (hk i h1 hun) h1
        have h3 : leftN cnt listed = 0 := by
          unfold leftN
          rw [List.length_eq_zero_iff, List.filter_eq_nil_iff]
          intro x hx
          rw [h2 x (List.mem_range.1 hx)]
          simp
        omega
    refine wpOpIn_of_qOpIn (C := C) hro hw (fun a' w' hw' hh => ?_) (h.2 i hi hic)
    refine wpAnyIn_of_P hro hB m _ a' w' hw' (hc.step hi) (by have := leftN_set hic hun; omega) (fun t ht hl => hk t ht ?_) hh
    rw [getD_set_ne true (by omega)] at hl
    exact hl
theorem wpAnyP_first {i : Nat} {oi : Oper} {v : Value} (hi : ops[i]? = some oi) (hsel : ∀ (j : Nat) (o : Oper) cs b, ops[j]? = some o → o.op ≠ .select cs b) :
    ∀ (m : Nat) (listed : Array Bool) (a : Act),
      (∀ j oj, ops[j]? = some oj → j ≠ i → listed.getD j true = false → (∀ e ∈ oj.after, Region.binds md e = true → e.on ≠ i) → oi.apart ops oj = true) →
      i ∈ Region.ready md ops listed → i < cnt → leftN cnt listed = m + 1 → YieldsQuiet F n P ops C oi v a →
      wpAnyP F n P md ops C E cnt m (listed.setIfInBounds i true) (a.put oi.dst v) → wpAnyP F n P md ops C E cnt (m + 1) listed a := by
  intro m
  induction m with
  | zero =>
    intro listed a _ hr hic hlf hy H
    refine ⟨fun h => (by rw [h] at hr; cases hr), fun j hj hjc => ?_⟩
    by_cases hji : j = i
    · subst hji; exact hy.qOpIn hi H
    · exfalso
      have h1 := leftN_set hic (mem_ready.1 hr).1
      have h2 := leftN_set hjc (mem_ready.1 (ready_mono hj hji)).1
      omega
  | succ m ih =>
    intro listed a hfree hr hic hlf hy H
    refine ⟨fun h => (by rw [h] at hr; cases hr), fun j hj hjc => ?_⟩
    by_cases hji : j = i
    · subst hji; exact hy.qOpIn hi H
    · have h1 := H.2 j (ready_mono hj hji) hjc
      obtain ⟨hjun, oj, hoj, hall⟩ := mem_ready.1 hj
      have hnot : ∀ e ∈ oj.after, Region.binds md e = true → e.on ≠ i := fun e he hb heq => by
        have h1 := hall e he hb
        have h0 := (mem_ready.1 hr).1
        rw [heq] at h1
        rcases Nat.lt_or_ge i listed.size with h' | h'
        · simp [h'] at h0 h1; rw [h0] at h1; cases h1
        · simp [Array.getElem?_eq_none h'] at h1
      have h2 := qOpIn_put hoj (hfree j oj hoj hji hjun hnot) (fun cs b => hsel i oi cs b hi) (fun cs b => hsel j oj cs b hoj) hy h1
      have hfree' : ∀ k ok, ops[k]? = some ok → k ≠ i → (listed.setIfInBounds j true).getD k true = false →
          (∀ e ∈ ok.after, Region.binds md e = true → e.on ≠ i) → oi.apart ops ok = true := fun k ok hk hki hun hno => by
        refine hfree k ok hk hki ?_ hno
        by_cases hjk : j = k
        · subst hjk; exact hjun
        · rw [getD_set_ne true hjk] at hun; exact hun
      refine qOpIn_mono (fun a' h3 => ih (listed.setIfInBounds j true) a' hfree' (ready_mono hr (Ne.symm hji)) hic (by have := leftN_set hjc hjun; omega) h3.1 ?_) h2
      rw [Array.setIfInBounds_comm _ _ hji]
      exact h3.2
theorem wpAnyP_lex (hs : Region.noSelect ops = true) {Ef : Act → Prop} : ∀ (l : List Oper) (k : Nat) (listed : Array Bool) (a : Act), (∀ j, j < l.length → l[j]? = ops[k + j]?) → k + l.length = cnt → leftN cnt listed = l.length →
    lexPre md ops l.length k listed = true → (∀ a, Ef a → E ((List.range' k l.length).foldl (fun s i => s.setIfInBounds i true) listed) a) → wpQuietIn F n P ops C Ef l a → wpAnyP F n P md ops C E cnt l.length listed a
  | [], _, _, _, _, _, _, _, hE, h => hE _ h
  | o :: l, k, listed, a, hl, hk, hlf, hB, hE, h => by
    have h0 : ops[k]? = some o := by simpa using (hl 0 (by simp)).symm
    simp only [List.length_cons, lexPre, Bool.and_eq_true] at hB
    obtain ⟨⟨hr, hf⟩, hB'⟩ := hB
    have hr' : k ∈ Region.ready md ops listed := by simpa using hr
    have hst : qOpIn F n P ops C k (wpQuietIn F n P ops C Ef l) a := by unfold qOpIn; simp only [h0]; exact h
    obtain ⟨v, hy, hK⟩ := yieldsQuiet_of_qOpIn h0 hst
    have hkc : k < cnt := by simp at hk; omega
    have hl1 : leftN cnt (listed.setIfInBounds k true) = l.length := by have := leftN_set hkc (mem_ready.1 hr').1; simp at hlf; omega
    exact wpAnyP_first h0 (Region.noSelect_spec hs) l.length listed a (Region.free_spec h0 hf) hr' hkc hlf hy
      (wpAnyP_lex hs l (k + 1) _ _ (fun j hj => by have := hl (j + 1) (by simp; omega); simpa [Nat.add_assoc, Nat.add_comm 1 j] using this) (by simp at hk; omega) hl1 hB' (fun a ha => by have := hE a ha; simpa [List.range'_succ] using this) hK)
/-- The first so many operations only read, and the others wait for them. -/
theorem wpAnyIn_split {pre os : List Oper} {listed : Array Bool} {a : Act} {w : World} {fuel0 : Nat} (hro : F.round = none) (hos : os.take pre.length = pre) (hs : Region.noSelect os.toArray = true) (hc : Clsd md os.toArray listed) (hlf : leftN pre.length listed = pre.length) (hW : waitsB md os.toArray pre.length listed = true) (hB : lexPre md os.toArray pre.length 0 listed = true) (hw : C w)
    (h : wpQuietIn F n P os.toArray C (fun a' => ∀ w', C w' → wpAnyIn F n P md os.toArray Q fuel0 ((List.range' 0 pre.length).foldl (fun s i => s.setIfInBounds i true) listed) a' w') pre a) : wpAnyIn F n P md os.toArray Q (pre.length + fuel0) listed a w := by
  refine wpAnyIn_of_P (C := C) (cnt := pre.length) hro hW pre.length listed a w hw hc hlf (fun _ _ h => h) ?_
  refine wpAnyP_lex hs pre 0 listed a (fun j hj => ?_) (by simp) hlf hB (fun a ha => ha) h
  have h1 : (os.take pre.length)[j]? = os[j]? := by rw [List.getElem?_take, if_pos hj]
  rw [hos] at h1
  rw [h1]
  simp
theorem wpAnyIn_splitK {os : List Oper} {listed : Array Bool} {a : Act} {w w0 : World} (k f0 : Nat) (hro : F.round = none) (hk : k ≤ os.length) (hs : Region.noSelect os.toArray = true) (hc : Clsd md os.toArray listed) (hlf : leftN k listed = k) (hW : waitsB md os.toArray k listed = true) (hB : lexPre md os.toArray k 0 listed = true) (hw : ∃ j, w = w0.drewN j)
    (h : wpQuietIn F n P os.toArray (fun w' => ∃ j, w' = w0.drewN j) (fun a' => ∀ w', (∃ j, w' = w0.drewN j) → wpAnyIn F n P md os.toArray Q f0 ((List.range' 0 k).foldl (fun s i => s.setIfInBounds i true) listed) a' w') (os.take k) a) : wpAnyIn F n P md os.toArray Q (k + f0) listed a w := by
  have hl : (os.take k).length = k := by simp; omega
  have := wpAnyIn_split (F := F) (n := n) (P := P) (Q := Q) (md := md) (C := fun w' => ∃ j, w' = w0.drewN j) (pre := os.take k) (os := os) (listed := listed) (a := a) (w := w) (fuel0 := f0) hro (by rw [hl]) hs hc (by rw [hl]; exact hlf) (by rw [hl]; exact hW) (by rw [hl]; exact hB) hw (by rw [hl]; exact h)
  rw [hl] at this
  exact this
end
section
variable {n : Nat} {P : Program} {Q : Exit → Act → World → Prop}
/-- Outside of a round: the first so many operations of a region only read. -/
theorem wp_region_split {id : Nat} {os : List Oper} {a : Act} {w : World} (k f0 : Nat) (hm : P.follows .mixedOrders = true) (hk : k + f0 = os.length) (hs : Region.noSelect os.toArray = true)
    (hW : waitsB .any os.toArray k (Array.replicate os.length false) = true) (hB : lexPre .any os.toArray k 0 (Array.replicate os.length false) = true)
    (h : wpQuietIn Fence.wide 0 P os.toArray (fun w' => ∃ j, w' = w.drewN j) (fun a' => ∀ w', (∃ j, w' = w.drewN j) → wpAnyIn Fence.wide 0 P .any os.toArray Q f0 ((List.range' 0 k).foldl (fun s i => s.setIfInBounds i true) (Array.replicate os.length false)) a' w') (os.take k) a) :
    (Code.region id os.toArray true).wp P Q a w := by
  refine (wpIn_wide (n := 0)).1 (wpIn_region_any hm ?_)
  have e : os.toArray.size = os.length := by simp
  rw [e]
  have h0 : leftN k (Array.replicate os.length false) = k := by
    unfold leftN
    rw [List.filter_eq_self.2]
    · simp
    · intro x hx
      rw [Array.getD_eq_getD_getElem?, Array.getElem?_replicate]
      split <;> rfl
  have := wpAnyIn_splitK (F := Fence.wide) (n := 0) (P := P) (Q := Q) (md := .any) (w := w.drew) (w0 := w) k f0 rfl (by omega) hs (by have := Clsd.none (md := .any) (ops := os.toArray); rwa [e] at this) h0 hW hB ⟨1, rfl⟩ h
  rw [hk] at this
  exact this
end

end Go.Proofs.Ytcogpcalghfghaa
