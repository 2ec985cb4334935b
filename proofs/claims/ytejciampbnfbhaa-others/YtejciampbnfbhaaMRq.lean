import Derived.Test.YtejciampbnfbhaaOa
import Derived.Sort.QuietIn
import Derived.Shelf.RegionOpen
import Derived.Sort.BigQuietIn
import Derived.Test.YtejciampbnfbhaaMDi
set_option linter.unusedVariables false
set_option linter.unusedSimpArgs false
namespace Go.Proofs.Ytejciampbnfbhaa
open Go.RowKit
theorem wide_fn (f : FuncId) : Fence.wide.fn f = True := rfl
section
variable {n : Nat} {P : Program} {ops : Array Oper} {Q : Exit → Act → World → Prop} {md : Region.Mode}
def Clsd (md : Region.Mode) (ops : Array Oper) (listed : Array Bool) : Prop := ∀ j o, ops[j]? = some o → listed.getD j false = true → ∀ e ∈ o.after, Region.binds md e = true → listed.getD e.on false = true
theorem Clsd.none : Clsd md ops (Array.replicate ops.size false) := fun j o _ h => by
 exfalso
 simp [Array.getElem?_replicate] at h
 split at h <;> simp at h
theorem Clsd.step {listed : Array Bool} (h : Clsd md ops listed) {i : Nat} (hi : i ∈ Region.ready md ops listed) : Clsd md ops (listed.setIfInBounds i true) := by
 obtain ⟨_, o, ho, hall⟩ := mem_ready.1 hi
 intro j oj hj hl e he hb
 by_cases hji : i = j
 ·subst hji
  obtain rfl := Option.some.inj (ho.symm.trans hj)
  exact getD_set_true (hall e he hb)
 ·rw [getD_set_ne false hji] at hl
  exact getD_set_true (h j oj hj hl e he hb)
def dirs (md : Region.Mode) (ops : Array Oper) (t : Nat) : List Nat := match ops[t]? with
 | none => []
 | some o => (o.after.toList.filter (Region.binds md ·)).map (·.on)
def clo (md : Region.Mode) (ops : Array Oper) : Nat → List Nat → List Nat
 | 0, S => S
 | f + 1, S => clo md ops f (S ++ (S.flatMap (dirs md ops)).filter fun x => !S.contains x)
theorem clo_listed {listed : Array Bool} (h : Clsd md ops listed) : ∀ (f : Nat) (S : List Nat), (∀ x ∈ S, listed.getD x false = true) → ∀ x ∈ clo md ops f S, listed.getD x false = true
 | 0, _, hS => hS
 | f + 1, S, hS => by
  refine clo_listed h f _ (fun x hx => ?_)
  rcases List.mem_append.1 hx with hx | hx
  ·exact hS x hx
  ·obtain ⟨y, hy, hx⟩ := List.mem_flatMap.1 (List.mem_filter.1 hx).1
   unfold dirs at hx
   split at hx
   ·cases hx
   ·rename_i o ho
    obtain ⟨e, he, rfl⟩ := List.mem_map.1 hx; obtain ⟨he, hb⟩ := List.mem_filter.1 he; exact h y o ho (hS y hy) e (by simpa using he) hb
def waitsB (md : Region.Mode) (ops : Array Oper) (cnt : Nat) (listed : Array Bool) : Bool := (List.range ops.size).all fun t => decide (t < cnt) || listed.getD t true || (List.range cnt).all fun i => (clo md ops 14 (dirs md ops t)).contains i
theorem waits_ready {cnt : Nat} {listed0 listed : Array Bool} (hB : waitsB md ops cnt listed0 = true) (h : Clsd md ops listed) {t : Nat} (ht : t ∈ Region.ready md ops listed) (h0 : listed0.getD t true = false) (hc : cnt ≤ t) : ∀ i, i < cnt → listed.getD i false = true := by
 intro i hi
 obtain ⟨_, o, ho, hall⟩ := mem_ready.1 ht
 have hl := (Array.getElem?_eq_some_iff.1 ho).1
 have h1 := List.all_eq_true.1 hB t (List.mem_range.2 hl)
 rw [h0, Bool.or_false, Bool.or_eq_true] at h1
 rcases h1 with h1 | h1
 ·have := of_decide_eq_true h1
  omega
 ·have h2 := List.all_eq_true.1 h1 i (List.mem_range.2 hi)
  refine clo_listed h 14 (dirs md ops t) (fun x hx => ?_) i (by simpa using h2)
  unfold dirs at hx
  rw [ho] at hx
  obtain ⟨e, he, rfl⟩ := List.mem_map.1 hx
  obtain ⟨he, hb⟩ := List.mem_filter.1 he
  exact hall e (by simpa using he) hb
def lexPre (md : Region.Mode) (ops : Array Oper) : Nat → Nat → Array Bool → Bool
 | 0, _, _ => true
 | c + 1, k, listed => (Region.ready md ops listed).contains k && Region.free md ops listed k && lexPre md ops c (k + 1) (listed.setIfInBounds k true)
def wpAnyP (F : Fence) (n : Nat) (P : Program) (md : Region.Mode) (ops : Array Oper) (C : World → Prop) (E : Array Bool → Act → Prop) (cnt : Nat) : Nat → Array Bool → Act → Prop
 | 0, listed, a => E listed a
 | m + 1, listed, a => Region.ready md ops listed ≠ [] ∧ ∀ i ∈ Region.ready md ops listed, i < cnt → qOpIn F n P ops C i (wpAnyP F n P md ops C E cnt m (listed.setIfInBounds i true)) a
variable {F : Fence} {C : World → Prop} {cnt : Nat} {E : Array Bool → Act → Prop}
def leftN (cnt : Nat) (listed : Array Bool) : Nat := ((List.range cnt).filter fun i => !listed.getD i false).length
theorem leftN_set {listed : Array Bool} {i : Nat} (hi : i < cnt) (hl : listed.getD i true = false) : leftN cnt (listed.setIfInBounds i true) + 1 = leftN cnt listed := by
 unfold leftN
 have hsz : i < listed.size := by
  rcases Nat.lt_or_ge i listed.size with h | h
  ·exact h
  ·simp [Array.getElem?_eq_none h] at hl
 have hlf : listed.getD i false = false := by simp [hsz] at hl ⊢; exact hl
 induction cnt with
 | zero => omega
 | succ c ih =>
  rw [List.range_succ, List.filter_append, List.filter_append, List.length_append, List.length_append]
  by_cases e : i = c
  ·subst e
   have e1 : ∀ x ∈ List.range i, (!(listed.setIfInBounds i true).getD x false) = (!listed.getD x false) := fun x hx => by
    have := List.mem_range.1 hx; rw [getD_set_ne false (by omega)]
   rw [List.filter_congr e1]; have e2 : (listed.setIfInBounds i true).getD i false = true := by simp [hsz]
   simp only [List.filter_cons, List.filter_nil, hlf, e2]
   simp
  ·have := ih (by omega)
   rw [← this]; simp only [List.filter_cons, List.filter_nil, getD_set_ne false e]; omega
theorem wpAnyIn_of_P (hro : F.round = none) {listed0 : Array Bool} {fuel0 : Nat} (hB : waitsB md ops cnt listed0 = true) : ∀ (m : Nat) (listed : Array Bool) (a : Act) (w : World), C w → Clsd md ops listed → leftN cnt listed = m → (∀ t, cnt ≤ t → listed.getD t true = false → listed0.getD t true = false) →
  wpAnyP F n P md ops C (fun listed a => ∀ w, C w → wpAnyIn F n P md ops Q fuel0 listed a w) cnt m listed a → wpAnyIn F n P md ops Q (m + fuel0) listed a w
 | 0, listed, a, w, hw, _, _, _, h => by rw [Nat.zero_add]; exact h w hw
 | m + 1, listed, a, w, hw, hc, hm, hk, h => by
  rw [show m + 1 + fuel0 = (m + fuel0) + 1 by omega]
  refine ⟨fun h0 => absurd h0 h.1, fun i hi => ?_⟩
  obtain ⟨hun, o, ho, hall⟩ := mem_ready.1 hi
  have hic : i < cnt := by
   rcases Nat.lt_or_ge i cnt with h1 | h1
   ·exact h1
   ·exfalso
    have h2 := waits_ready hB hc hi (hk i h1 hun) h1
    have h3 : leftN cnt listed = 0 := by
     unfold leftN; rw [List.length_eq_zero_iff, List.filter_eq_nil_iff]; intro x hx; rw [h2 x (List.mem_range.1 hx)]
     simp
    omega
  refine wpOpIn_of_qOpIn (C := C) hro hw (fun a' w' hw' hh => ?_) (h.2 i hi hic)
  refine wpAnyIn_of_P hro hB m _ a' w' hw' (hc.step hi) (by have := leftN_set hic hun; omega) (fun t ht hl => hk t ht ?_) hh
  rw [getD_set_ne true (by omega)] at hl
  exact hl
theorem wpAnyP_first {i : Nat} {oi : Oper} {v : Value} (hi : ops[i]? = some oi) (hsel : ∀ (j : Nat) (o : Oper) cs b, ops[j]? = some o → o.op ≠ .select cs b) :
  ∀ (m : Nat) (listed : Array Bool) (a : Act),
   (∀ j oj, ops[j]? = some oj → j ≠ i → listed.getD j true = false → (∀ e ∈ oj.after, Region.binds md e = true → e.on ≠ i) → oi.apart ops oj = true) →
   i ∈ Region.ready md ops listed → i < cnt → leftN cnt listed = m + 1 → YieldsQuiet F n P ops C oi v a →
   wpAnyP F n P md ops C E cnt m (listed.setIfInBounds i true) (a.put oi.dst v) → wpAnyP F n P md ops C E cnt (m + 1) listed a := by
 intro m
 induction m with
 | zero =>
  intro listed a _ hr hic hlf hy H
  refine ⟨fun h => (by rw [h] at hr; cases hr), fun j hj hjc => ?_⟩
  by_cases hji : j = i
  ·subst hji; exact hy.qOpIn hi H
  ·exfalso
   have h1 := leftN_set hic (mem_ready.1 hr).1; have h2 := leftN_set hjc (mem_ready.1 (ready_mono hj hji)).1; omega
 | succ m ih =>
  intro listed a hfree hr hic hlf hy H
  refine ⟨fun h => (by rw [h] at hr; cases hr), fun j hj hjc => ?_⟩
  by_cases hji : j = i
  ·subst hji; exact hy.qOpIn hi H
  ·have h1 := H.2 j (ready_mono hj hji) hjc
   obtain ⟨hjun, oj, hoj, hall⟩ := mem_ready.1 hj
   have hnot : ∀ e ∈ oj.after, Region.binds md e = true → e.on ≠ i := fun e he hb heq => by
    have h1 := hall e he hb; have h0 := (mem_ready.1 hr).1; rw [heq] at h1
    rcases Nat.lt_or_ge i listed.size with h' | h'
    ·simp [h'] at h0 h1; rw [h0] at h1; cases h1
    ·simp [Array.getElem?_eq_none h'] at h1
   have h2 := qOpIn_put hoj (hfree j oj hoj hji hjun hnot) (fun cs b => hsel i oi cs b hi) (fun cs b => hsel j oj cs b hoj) hy h1
   have hfree' : ∀ k ok, ops[k]? = some ok → k ≠ i → (listed.setIfInBounds j true).getD k true = false →
     (∀ e ∈ ok.after, Region.binds md e = true → e.on ≠ i) → oi.apart ops ok = true := fun k ok hk hki hun hno => by
    refine hfree k ok hk hki ?_ hno
    by_cases hjk : j = k
    ·subst hjk; exact hjun
    ·rw [getD_set_ne true hjk] at hun; exact hun
   refine qOpIn_mono (fun a' h3 => ih (listed.setIfInBounds j true) a' hfree' (ready_mono hr (Ne.symm hji)) hic (by have := leftN_set hjc hjun; omega) h3.1 ?_) h2; rw [Array.setIfInBounds_comm _ _ hji]; exact h3.2
theorem wpAnyP_lex (hs : Region.noSelect ops = true) {Ef : Act → Prop} : ∀ (l : List Oper) (k : Nat) (listed : Array Bool) (a : Act), (∀ j, j < l.length → l[j]? = ops[k + j]?) → k + l.length = cnt → leftN cnt listed = l.length →
  lexPre md ops l.length k listed = true → (∀ a, Ef a → E ((List.range' k l.length).foldl (fun s i => s.setIfInBounds i true) listed) a) → wpQuietIn F n P ops C Ef l a → wpAnyP F n P md ops C E cnt l.length listed a
 | [], _, _, _, _, _, _, _, hE, h => hE _ h
 | o :: l, k, listed, a, hl, hk, hlf, hB, hE, h => by
  have h0 : ops[k]? = some o := by simpa using (hl 0 (by simp)).symm
  simp only [List.length_cons, lexPre, Bool.and_eq_true] at hB
  obtain ⟨⟨hr, hf⟩, hB'⟩ := hB
  have hr' : k ∈ Region.ready md ops listed := by simpa using hr
  have hst : qOpIn F n P ops C k (wpQuietIn F n P ops C Ef l) a := by unfold qOpIn; simp only [h0]; exact h
  obtain ⟨v, hy, hK⟩ := yieldsQuiet_of_qOpIn h0 hst
  have hkc : k < cnt := by simp at hk; omega
  have hl1 : leftN cnt (listed.setIfInBounds k true) = l.length := by have := leftN_set hkc (mem_ready.1 hr').1; simp at hlf; omega
  exact wpAnyP_first h0 (Region.noSelect_spec hs) l.length listed a (Region.free_spec h0 hf) hr' hkc hlf hy
   (wpAnyP_lex hs l (k + 1) _ _ (fun j hj => by have := hl (j + 1) (by simp; omega); simpa [Nat.add_assoc, Nat.add_comm 1 j] using this) (by simp at hk; omega) hl1 hB' (fun a ha => by have := hE a ha; simpa [List.range'_succ] using this) hK)
theorem wpAnyIn_split {pre os : List Oper} {listed : Array Bool} {a : Act} {w : World} {fuel0 : Nat} (hro : F.round = none) (hos : os.take pre.length = pre) (hs : Region.noSelect os.toArray = true) (hc : Clsd md os.toArray listed) (hlf : leftN pre.length listed = pre.length) (hW : waitsB md os.toArray pre.length listed = true) (hB : lexPre md os.toArray pre.length 0 listed = true) (hw : C w)
  (h : wpQuietIn F n P os.toArray C (fun a' => ∀ w', C w' → wpAnyIn F n P md os.toArray Q fuel0 ((List.range' 0 pre.length).foldl (fun s i => s.setIfInBounds i true) listed) a' w') pre a) : wpAnyIn F n P md os.toArray Q (pre.length + fuel0) listed a w := by
 refine wpAnyIn_of_P (C := C) (cnt := pre.length) hro hW pre.length listed a w hw hc hlf (fun _ _ h => h) ?_
 refine wpAnyP_lex hs pre 0 listed a (fun j hj => ?_) (by simp) hlf hB (fun a ha => ha) h
 have h1 : (os.take pre.length)[j]? = os[j]? := by rw [List.getElem?_take, if_pos hj]
 rw [hos] at h1
 rw [h1]
 simp
theorem wpAnyIn_splitK {os : List Oper} {listed : Array Bool} {a : Act} {w w0 : World} (k f0 : Nat) (hro : F.round = none) (hk : k ≤ os.length) (hs : Region.noSelect os.toArray = true) (hc : Clsd md os.toArray listed) (hlf : leftN k listed = k) (hW : waitsB md os.toArray k listed = true) (hB : lexPre md os.toArray k 0 listed = true) (hw : ∃ j, w = w0.drewN j)
  (h : wpQuietIn F n P os.toArray (fun w' => ∃ j, w' = w0.drewN j) (fun a' => ∀ w', (∃ j, w' = w0.drewN j) → wpAnyIn F n P md os.toArray Q f0 ((List.range' 0 k).foldl (fun s i => s.setIfInBounds i true) listed) a' w') (os.take k) a) : wpAnyIn F n P md os.toArray Q (k + f0) listed a w := by
 have hl : (os.take k).length = k := by simp; omega
 have := wpAnyIn_split (F := F) (n := n) (P := P) (Q := Q) (md := md) (C := fun w' => ∃ j, w' = w0.drewN j) (pre := os.take k) (os := os) (listed := listed) (a := a) (w := w) (fuel0 := f0) hro (by rw [hl]) hs hc (by rw [hl]; exact hlf) (by rw [hl]; exact hW) (by rw [hl]; exact hB) hw (by rw [hl]; exact h)
 rw [hl] at this
 exact this
end
section
variable {n : Nat} {P : Program} {Q : Exit → Act → World → Prop}
theorem wp_region_split {id : Nat} {os : List Oper} {a : Act} {w : World} (k f0 : Nat) (hm : P.follows .mixedOrders = true) (hk : k + f0 = os.length) (hs : Region.noSelect os.toArray = true)
  (hW : waitsB .any os.toArray k (Array.replicate os.length false) = true) (hB : lexPre .any os.toArray k 0 (Array.replicate os.length false) = true)
  (h : wpQuietIn Fence.wide 0 P os.toArray (fun w' => ∃ j, w' = w.drewN j) (fun a' => ∀ w', (∃ j, w' = w.drewN j) → wpAnyIn Fence.wide 0 P .any os.toArray Q f0 ((List.range' 0 k).foldl (fun s i => s.setIfInBounds i true) (Array.replicate os.length false)) a' w') (os.take k) a) :
  (Code.region id os.toArray true).wp P Q a w := by
 refine (wpIn_wide (n := 0)).1 (wpIn_region_any hm ?_)
 have e : os.toArray.size = os.length := by simp
 rw [e]
 have h0 : leftN k (Array.replicate os.length false) = k := by
  unfold leftN
  rw [List.filter_eq_self.2]
  ·simp
  ·intro x hx
   rw [Array.getD_eq_getD_getElem?, Array.getElem?_replicate]
   split <;> rfl
 have := wpAnyIn_splitK (F := Fence.wide) (n := 0) (P := P) (Q := Q) (md := .any) (w := w.drew) (w0 := w) k f0 rfl (by omega) hs (by have := Clsd.none (md := .any) (ops := os.toArray); rwa [e] at this) h0 hW hB ⟨1, rfl⟩ h
 rw [hk] at this
 exact this
end
end Go.Proofs.Ytejciampbnfbhaa

namespace Go.Proofs.Ytejciampbnfbhaa
open Go.RowKit
attribute [local simp] wide_fn
namespace Dg
structure Kept (d d' : D) : Prop where
 kind : d'.kind = d.kind
 a : d'.a = d.a
 b : d'.b = d.b
 row : d'.row = d.row
 tv : d'.tv = d.tv
 rv : d'.rv = d.rv
theorem Kept.refl (d : D) : Kept d d := ⟨rfl, rfl, rfl, rfl, rfl, rfl⟩
theorem Kept.trans {d e g : D} (h : Kept d e) (k : Kept e g) : Kept d g := ⟨k.kind.trans h.kind, k.a.trans h.a, k.b.trans h.b, k.row.trans h.row, k.tv.trans h.tv, k.rv.trans h.rv⟩
theorem lnk_kept (d : D) (m : Nat) (n : Int) : Kept d (d.lnk m n) := ⟨rfl, rfl, rfl, rfl, rfl, rfl⟩
theorem stands_kept {d d' : D} {v x : Int} {o : List Un.Nm} (h : stands d v o x = some d') : Kept d d' := by
 unfold stands at h
 split at h
 ·obtain rfl := Option.some.inj h
  exact ⟨rfl, rfl, rfl, rfl, rfl, rfl⟩
 ·cases h
theorem sameRow_kept {f : Nat} {d d' : D} {r s : Int} {ok : Bool} (h : sameRow f d r s = some (ok, d')) : Kept d d' := by
 unfold sameRow at h
 obtain ⟨p, _, h1⟩ := Option.bind_eq_some_iff.1 h
 obtain ⟨q, _, h2⟩ := Option.bind_eq_some_iff.1 h1
 clear h h1
 split at h2
 case isFalse => cases h2
 split at h2
 ·obtain ⟨_, rfl⟩ := Prod.mk.inj (Option.some.inj h2)
  exact Kept.refl _
 ·split at h2
  ·split at h2
   ·obtain ⟨_, rfl⟩ := Prod.mk.inj (Option.some.inj h2)
    exact Kept.refl _
   ·obtain ⟨e, he, h3⟩ := Option.map_eq_some_iff.1 h2
    obtain ⟨_, rfl⟩ := Prod.mk.inj h3; exact stands_kept he
  ·split at h2
   ·split at h2
    ·obtain ⟨_, rfl⟩ := Prod.mk.inj (Option.some.inj h2)
     exact Kept.refl _
    ·obtain ⟨e, he, h3⟩ := Option.map_eq_some_iff.1 h2
     obtain ⟨_, rfl⟩ := Prod.mk.inj h3; exact stands_kept he
   ·split at h2
    ·obtain ⟨e, he, h3⟩ := Option.bind_eq_some_iff.1 h2
     obtain ⟨e2, he2, h4⟩ := Option.map_eq_some_iff.1 h3; obtain ⟨_, rfl⟩ := Prod.mk.inj h4; exact Kept.trans (e := d.putRow [] (-1)) ⟨rfl, rfl, rfl, rfl, rfl, rfl⟩ ((stands_kept he).trans (stands_kept he2))
    ·cases h2
structure Deep (f k : Nat) (d : D) (m n km am an bm bn rm rn : Int) (ok : Bool) (d' : D) : Prop where
 hm : at? d.kind m = some km
 hn : at? d.kind n = some km
 ham : at? d.a m = some am
 han : at? d.a n = some an
 hbm : at? d.b m = some bm
 hbn : at? d.b n = some bn
 hrm : at? d.row m = some rm
 hrn : at? d.row n = some rn
 go : ((if 0 ≤ am then same f k (d.lnk m.toNat n) am an else some (true, d.lnk m.toNat n)).bind fun p => if p.1 = false then some (false, p.2) else
  (if 0 ≤ bm then same f k p.2 bm bn else some (true, p.2)).bind fun q => if q.1 = false then some (false, q.2) else
  if km = 6 then sameRow f q.2 rm rn else some (true, q.2)) = some (ok, d')
theorem same_cases {f k : Nat} {d d' : D} {m n : Int} {ok : Bool} (h : same f (k + 1) d m n = some (ok, d')) : ∃ m' n', find f d.link m = some m' ∧ find f d.link n = some n' ∧ (
  (m' = n' ∧ ok = true ∧ d' = d) ∨ (m' ≠ n' ∧ at? d.kind m' = some 0 ∧ ok = true ∧ d' = d.lnk m'.toNat n') ∨
  ∃ km kn, m' ≠ n' ∧ at? d.kind m' = some km ∧ km ≠ 0 ∧ at? d.kind n' = some kn ∧ ((kn = 0 ∧ ok = true ∧ d' = d.lnk n'.toNat m') ∨ (kn ≠ 0 ∧ km ≠ kn ∧ ok = false ∧ d' = d) ∨ (kn ≠ 0 ∧ km = kn ∧ ∃ am an bm bn rm rn, Deep f k d m' n' km am an bm bn rm rn ok d'))) := by
 unfold same at h
 obtain ⟨m', h1, h⟩ := Option.bind_eq_some_iff.1 h
 obtain ⟨n', h2, h⟩ := Option.bind_eq_some_iff.1 h
 refine ⟨m', n', h1, h2, ?_⟩
 split at h
 ·rename_i e
  obtain ⟨e1, e2⟩ := Prod.mk.inj (Option.some.inj h)
  exact .inl ⟨e, e1.symm, e2.symm⟩
 ·rename_i e
  obtain ⟨km, h3, h⟩ := Option.bind_eq_some_iff.1 h
  split at h
  ·rename_i e0
   subst e0; obtain ⟨e1, e2⟩ := Prod.mk.inj (Option.some.inj h); exact .inr (.inl ⟨e, h3, e1.symm, e2.symm⟩)
  ·rename_i e0
   obtain ⟨kn, h4, h⟩ := Option.bind_eq_some_iff.1 h; refine .inr (.inr ⟨km, kn, e, h3, e0, h4, ?_⟩)
   split at h
   ·rename_i e1
    obtain ⟨e2, e3⟩ := Prod.mk.inj (Option.some.inj h); exact .inl ⟨e1, e2.symm, e3.symm⟩
   ·rename_i e1
    split at h
    ·rename_i e2
     obtain ⟨e3, e4⟩ := Prod.mk.inj (Option.some.inj h); exact .inr (.inl ⟨e1, e2, e3.symm, e4.symm⟩)
    ·rename_i e2
     have e3 : km = kn := by simpa using e2
     obtain ⟨am, h5, h⟩ := Option.bind_eq_some_iff.1 h; obtain ⟨an, h6, h⟩ := Option.bind_eq_some_iff.1 h; obtain ⟨bm, h7, h⟩ := Option.bind_eq_some_iff.1 h; obtain ⟨bn, h8, h⟩ := Option.bind_eq_some_iff.1 h; obtain ⟨rm, h9, h⟩ := Option.bind_eq_some_iff.1 h; obtain ⟨rn, h10, h⟩ := Option.bind_eq_some_iff.1 h; exact .inr (.inr ⟨e1, e3, am, an, bm, bn, rm, rn, h3, by rw [e3]; exact h4, h5, h6, h7, h8, h9, h10, h⟩)
theorem same_kept {f : Nat} : ∀ {k : Nat} {d d' : D} {m n : Int} {ok : Bool}, same f k d m n = some (ok, d') → Kept d d'
 | 0, _, _, _, _, _, h => by cases h
 | k + 1, d, d', m, n, ok, h => by
  obtain ⟨m', n', _, _, ⟨_, _, rfl⟩ | ⟨_, _, _, rfl⟩ | ⟨km, kn, _, _, _, _, ⟨_, _, rfl⟩ | ⟨_, _, _, rfl⟩ | ⟨_, _, am, an, bm, bn, rm, rn, hd⟩⟩⟩ := same_cases h
  ·exact Kept.refl _
  ·exact lnk_kept _ _ _
  ·exact lnk_kept _ _ _
  ·exact Kept.refl _
  ·obtain ⟨p, hp, hg⟩ := Option.bind_eq_some_iff.1 hd.go
   have k1 : Kept d p.2 := by
    split at hp
    ·exact (lnk_kept d m'.toNat n').trans (same_kept (k := k) (ok := p.1) (d' := p.2) hp)
    ·obtain rfl := Option.some.inj hp; exact lnk_kept _ _ _
   split at hg
   ·obtain ⟨_, rfl⟩ := Prod.mk.inj (Option.some.inj hg); exact k1
   ·obtain ⟨q, hq, hg⟩ := Option.bind_eq_some_iff.1 hg
    have k2 : Kept d q.2 := by
     split at hq
     ·exact k1.trans (same_kept (k := k) (ok := q.1) (d' := q.2) hq)
     ·obtain rfl := Option.some.inj hq; exact k1
    split at hg
    ·obtain ⟨_, rfl⟩ := Prod.mk.inj (Option.some.inj hg); exact k2
    ·split at hg
     ·exact k2.trans (sameRow_kept hg)
     ·obtain ⟨_, rfl⟩ := Prod.mk.inj (Option.some.inj hg); exact k2
end Dg
theorem GD.lnk {w : World} {b : Nat} {G : Gg} {d : Dg.D} (h : GD w b G d) {i : Nat} {g n cap : Nat} (hi : i < d.link.length) (hv : G.v 4 = .slice (some ⟨g, 0, none⟩) n cap) (x : Int) : GS w b G (w.setCell ⟨g, i, none⟩ (.int .i64 x)) (d.lnk i x) := by
 obtain ⟨s1, s2⟩ := h.gm.set (i := 4) (j := i) (by omega) (by rw [h.x4, ints_len]; exact hi) (.int .i64 x) hv
 refine ⟨_, ⟨s1, ?_, ?_, ?_, ?_, ?_, ?_, ?_, fun j o' hj => ?_, h.tv, h.rv⟩, s2, fun k hk => .inl (same_own hk)⟩
 ·rw [setRow_xo _ _ _ (by omega), h.x0]; rfl
 ·rw [setRow_xo _ _ _ (by omega), h.x1]; rfl
 ·rw [setRow_xo _ _ _ (by omega), h.x2]; rfl
 ·rw [setRow_xo _ _ _ (by omega), h.x3]; rfl
 ·rw [setRow_x, h.x4]; exact ints_set _ _ _
 ·rw [setRow_xo _ _ _ (by omega), h.x6]; rfl
 ·rw [setRow_xo _ _ _ (by omega)]; exact h.ol
 ·obtain ⟨u', u1, u2, u3⟩ := h.ov j o' hj
  exact ⟨u', by rw [setRow_xo _ _ _ (by omega)]; exact u1, u2.keep s2 u3, fun k hk ho => u3 k hk (same_own ho)⟩
end Go.Proofs.Ytejciampbnfbhaa
