/-
  The document's heap in memory; At, Used.
-/
import Derived.Test.YtidgppghakmkaaaId
import Derived.Shelf.SlSortCmp.QuietGrown
import Derived.Lib.SliceRun
set_option linter.unusedVariables false
set_option linter.unusedSimpArgs false
namespace Go.Proofs.Ytidgppghakmkaaa
open Go.RowKit Go.Shelf Hp Go.Sort
attribute [local simp] wide_fn

namespace Hp
/-- A row of n fields. -/
def rowK (r : Nat → Cl) (n : Nat) : Array Value := Array.ofFn (n := n * 2) fun i => rv r i.1
theorem rowK_all (r : Nat → Cl) (n i : Nat) : (rowK r n)[i]? = if i < n * 2 then some (rv r i) else none := by
  unfold rowK
  rw [Array.getElem?_ofFn]
  split <;> rfl
theorem rowK_size (r : Nat → Cl) (n : Nat) : (rowK r n).size = n * 2 := by simp [rowK]
theorem rowK_ptr (r : Nat → Cl) {n i : Nat} (h : i < n) : (rowK r n)[i * 2]? = some (.bool (r i).ptr) := by
  rw [rowK_all, if_pos (by omega)]
  have e1 : i * 2 % 2 = 0 := by omega
  have e2 : i * 2 / 2 = i := by omega
  simp [rv, e1, e2]
theorem rowK_num (r : Nat → Cl) {n i : Nat} (h : i < n) : (rowK r n)[i * 2 + 1]? = some (.int .i64 (r i).n) := by
  rw [rowK_all, if_pos (by omega)]
  have e1 : ¬ ((i * 2 + 1) % 2 = 0) := by omega
  have e2 : (i * 2 + 1) / 2 = i := by omega
  simp only [rv, if_neg e1, e2]
theorem rowK_ext {r r' : Nat → Cl} {n : Nat} (h : ∀ i, i < n → r i = r' i) : rowK r n = rowK r' n := by
  apply Array.ext_getElem?
  intro i
  rw [rowK_all, rowK_all]
  split
  · simp only [rv]
    rw [h (i / 2) (by omega)]
  · rfl
theorem rowK_setn (r r' : Nat → Cl) {n i : Nat} (hi : i < n) (v : Int) (h1 : r' i = ⟨(r i).ptr, v⟩) (h2 : ∀ j, j < n → j ≠ i → r' j = r j) : (rowK r n).setIfInBounds (i * 2 + 1) (.int .i64 v) = rowK r' n := by
  apply Array.ext_getElem?
  intro j
  rw [Array.getElem?_setIfInBounds, rowK_all, rowK_all, rowK_size]
  by_cases hj : j < n * 2
  · by_cases e : i * 2 + 1 = j
    · rw [if_pos e, if_pos (by omega), if_pos hj]
      have e1 : ¬ (j % 2 = 0) := by omega
      have e2 : j / 2 = i := by omega
      simp only [rv, if_neg e1, e2, h1]
    · rw [if_neg e, if_pos hj, if_pos hj]
      by_cases e2 : j / 2 = i
      · have e1 : j % 2 = 0 := by omega
        simp only [rv, if_pos e1, e2, h1]
      · simp only [rv, h2 _ (by omega) e2]
  · rw [if_neg (by omega), if_neg hj, if_neg hj]
theorem rowK_setp (r r' : Nat → Cl) {n i : Nat} (hi : i < n) (b : Bool) (h1 : r' i = ⟨b, (r i).n⟩) (h2 : ∀ j, j < n → j ≠ i → r' j = r j) : (rowK r n).setIfInBounds (i * 2) (.bool b) = rowK r' n := by
  apply Array.ext_getElem?
  intro j
  rw [Array.getElem?_setIfInBounds, rowK_all, rowK_all, rowK_size]
  by_cases hj : j < n * 2
  · by_cases e : i * 2 = j
    · rw [if_pos e, if_pos (by omega), if_pos hj]
      have e1 : j % 2 = 0 := by omega
      have e2 : j / 2 = i := by omega
      simp only [rv, if_pos e1, e2, h1]
    · rw [if_neg e, if_pos hj, if_pos hj]
      by_cases e2 : j / 2 = i
      · have e1 : ¬ (j % 2 = 0) := by omega
        simp only [rv, if_neg e1, e2, h1]
      · simp only [rv, h2 _ (by omega) e2]
  · rw [if_neg (by omega), if_neg hj, if_neg hj]
/-- A thing as the document has it: where its fields lie. -/
structure RT where
  at_ : Int
  kind : Int
  tag : Int
  b : Nat
  n : Nat
def tv (d : RT) : Nat → Value
  | 0 => .int .i64 d.at_
  | 1 => .int .i64 d.kind
  | 2 => .int .i64 d.tag
  | _ => .slice (some ⟨d.b, 0, none⟩) d.n d.n
def xsT (d : Nat → RT) (n : Nat) : List Value := List.ofFn (n := n * 4) fun i => tv (d (i.1 / 4)) (i.1 % 4)
theorem xsT_len (d : Nat → RT) (n : Nat) : (xsT d n).length = n * 4 := by simp [xsT]
theorem xsT_all (d : Nat → RT) (n i : Nat) : (xsT d n)[i]? = if i < n * 4 then some (tv (d (i / 4)) (i % 4)) else none := by
  unfold xsT
  rw [List.getElem?_ofFn]
  split <;> rfl
theorem xsT_at (d : Nat → RT) {n i k : Nat} (hi : i < n) (hk : k < 4) : (xsT d n)[i * 4 + k]? = some (tv (d i) k) := by
  have e1 : (i * 4 + k) / 4 = i := by omega
  have e2 : (i * 4 + k) % 4 = k := by omega
  rw [xsT_all, if_pos (by omega), e1, e2]
theorem xsT_ext {d d' : Nat → RT} {n : Nat} (h : ∀ i, i < n → d i = d' i) : xsT d n = xsT d' n := by
  apply List.ext_getElem?
  intro i
  rw [xsT_all, xsT_all]
  split
  · rw [h (i / 4) (by omega)]
  · rfl
theorem xsT_snoc (d : Nat → RT) (n : Nat) : xsT d (n + 1) = xsT d n ++ [tv (d n) 0, tv (d n) 1, tv (d n) 2, tv (d n) 3] := by
  apply List.ext_getElem?
  intro i
  rw [xsT_all]
  by_cases h : i < n * 4
  · rw [List.getElem?_append_left (by rw [xsT_len]; exact h), xsT_all, if_pos h, if_pos (by omega)]
  · rw [List.getElem?_append_right (by rw [xsT_len]; omega), xsT_len]
    by_cases h2 : i < (n + 1) * 4
    · rw [if_pos h2]
      have e1 : i / 4 = n := by omega
      rw [e1]
      rcases (show i = n * 4 ∨ i = n * 4 + 1 ∨ i = n * 4 + 2 ∨ i = n * 4 + 3 by omega) with rfl | rfl | rfl | rfl
      · simp
      · rw [show (n * 4 + 1) % 4 = 1 by omega, show n * 4 + 1 - n * 4 = 1 by omega]; rfl
      · rw [show (n * 4 + 2) % 4 = 2 by omega, show n * 4 + 2 - n * 4 = 2 by omega]; rfl
      · rw [show (n * 4 + 3) % 4 = 3 by omega, show n * 4 + 3 - n * 4 = 3 by omega]; rfl
    · rw [if_neg h2]
      symm
      rw [List.getElem?_eq_none_iff]
      simp
      omega
def dOf (T : List Th) (bs : Nat → Nat) (i : Nat) : RT := ⟨(ad T i : Nat), (thOf T i).kind, (thOf T i).tag, bs i, (thOf T i).l.length⟩
theorem ad_strict {T : List Th} {i j : Nat} {t : Th} (h : T[i]? = some t) (hij : i < j) : ad T i < ad T j := by
  have := ad_lt h hij
  have : t.size = t.l.length + 1 := rfl
  omega
end Hp

/-- The document's heap in the block rb. -/
structure DM (w : World) (rb N : Nat) (T : List Th) (bs : Nat → Nat) (lv : Value) : Prop where
  hd : w.heap[rb]? = some (.cells #[.int .i64 N, lv] 30 (0, 0))
  row : w.ownsRow 0 46 4 lv T.length (xsT (dOf T bs) T.length)
  fld : ∀ i t, T[i]? = some t → w.heap[bs i]? = some (.cells (rowK (clOf T i) t.l.length) 43 (0, 0))
  inj : ∀ i j, i < T.length → j < T.length → bs i = bs j → i = j
  nrb : ∀ i, i < T.length → bs i ≠ rb
  nlv : ∀ i, i < T.length → lv.ownBlock ≠ some (bs i)
  lrb : lv.ownBlock ≠ some rb
  le : used T ≤ N
  max : N ≤ 1000000
theorem len_used (T : List Th) : T.length ≤ used T := by
  induction T with
  | nil => simp [used]
  | cons t r ih =>
    have : t.size = t.l.length + 1 := rfl
    simp [used] at ih ⊢
    omega
theorem DM.keep {w w' : World} {rb N : Nat} {T : List Th} {bs : Nat → Nat} {lv : Value} (h : DM w rb N T bs lv) (hc : ∀ k, (k = rb ∨ lv.ownBlock = some k ∨ ∃ i, i < T.length ∧ bs i = k) → w'.heap[k]? = w.heap[k]?) : DM w' rb N T bs lv :=
  ⟨(hc rb (.inl rfl)).trans h.hd, ownsRow_keep h.row (fun k hk => hc k (.inr (.inl hk))), fun i t ht => (hc _ (.inr (.inr ⟨i, (List.getElem?_eq_some_iff.1 ht).1, rfl⟩))).trans (h.fld i t ht), h.inj, h.nrb, h.nlv, h.lrb, h.le, h.max⟩
theorem DM.lt {w : World} {rb N : Nat} {T : List Th} {bs : Nat → Nat} {lv : Value} (h : DM w rb N T bs lv) {k : Nat} (hk : k = rb ∨ lv.ownBlock = some k ∨ ∃ i, i < T.length ∧ bs i = k) : k < w.heap.size := by
  rcases hk with rfl | hk | ⟨i, hi, rfl⟩
  · exact (Array.getElem?_eq_some_iff.1 h.hd).1
  · exact ownsRow_lt h.row hk
  · exact (Array.getElem?_eq_some_iff.1 (h.fld i _ (List.getElem?_eq_getElem hi))).1
theorem DM.quiet {w w' : World} {rb N : Nat} {T : List Th} {bs : Nat → Nat} {lv : Value} (h : DM w rb N T bs lv) (hc : Ch (fun _ => False) w w') : DM w' rb N T bs lv := h.keep (fun k hk => hc.same k (h.lt hk) (fun h => h))
/-- The row of things, where there is one. -/
theorem DM.lv {w : World} {rb N : Nat} {T : List Th} {bs : Nat → Nat} {lv : Value} (h : DM w rb N T bs lv) (h0 : 0 < T.length) : ∃ g cap, lv = .slice (some ⟨g, 0, none⟩) T.length cap := by
  obtain ⟨a, cap, e, h1, _⟩ := row_slice h.row
  rcases h1 with h1 | ⟨g, rfl⟩
  · omega
  · exact ⟨g, cap, e⟩
theorem DM.thing {w : World} {rb N g cap : Nat} {T : List Th} {bs : Nat → Nat} (h : DM w rb N T bs (.slice (some ⟨g, 0, none⟩) T.length cap)) {i : Nat} {t : Th} (ht : T[i]? = some t) : w.cell? ⟨g, i * 4, none⟩ = some (.int .i64 (ad T i : Nat)) ∧ w.cell? ⟨g, i * 4 + 1, none⟩ = some (.int .i64 t.kind) ∧ w.cell? ⟨g, i * 4 + 2, none⟩ = some (.int .i64 t.tag) ∧ w.cell? ⟨g, i * 4 + 3, none⟩ = some (.slice (some ⟨bs i, 0, none⟩) t.l.length t.l.length) := by
  have hi := (List.getElem?_eq_some_iff.1 ht).1
  have e : dOf T bs i = ⟨(ad T i : Nat), t.kind, t.tag, bs i, t.l.length⟩ := by simp [dOf, thOf_at ht]
  refine ⟨?_, ?_, ?_, ?_⟩
  · exact row_cell h.row (i * 4) _ (by have := xsT_at (dOf T bs) hi (k := 0) (by omega); rw [e] at this; exact this)
  · exact row_cell h.row (i * 4 + 1) _ (by have := xsT_at (dOf T bs) hi (k := 1) (by omega); rw [e] at this; exact this)
  · exact row_cell h.row (i * 4 + 2) _ (by have := xsT_at (dOf T bs) hi (k := 2) (by omega); rw [e] at this; exact this)
  · exact row_cell h.row (i * 4 + 3) _ (by have := xsT_at (dOf T bs) hi (k := 3) (by omega); rw [e] at this; exact this)

set_option maxRecDepth 100000 in
set_option maxHeartbeats 8000000 in
theorem At_any (w : World) (rb N : Nat) (T : List Th) (bs : Nat → Nat) (lv : Value) (D : DM w rb N T bs lv) (i : Nat) (t : Th) (ht : T[i]? = some t) :
    Calls Try.prog 10 #[.pointer (some ⟨rb, 0, none⟩), .int .i64 (ad T i : Nat)] w fun e w' => e = .returned (.int .i64 (i : Nat)) ∧ w' = w := by
  have hi := (List.getElem?_eq_some_iff.1 ht).1
  obtain ⟨g, cap, rfl⟩ := D.lv (by omega)
  have hln := len_used T
  have hle := D.le
  have hmx := D.max
  have h1 : w.cell? ⟨rb, 1, none⟩ = some (.slice (some ⟨g, 0, none⟩) T.length cap) := by simp [World.cell?, D.hd]
  have hth : ∀ m, m < T.length → w.cell? ⟨g, m * 4, none⟩ = some (.int .i64 (ad T m : Nat)) := fun m hm => (D.thing (List.getElem?_eq_getElem hm)).1
  have hmono : ∀ m, m < T.length → ((ad T m : Int) < (ad T i : Int) ↔ m < i) := fun m hm => by
    constructor
    · intro h
      rcases Nat.lt_trichotomy m i with h2 | h2 | h2
      · exact h2
      · subst h2; omega
      · have := ad_strict ht h2; omega
    · intro h
      have := ad_strict (List.getElem?_eq_getElem hm) h
      omega
  replace D := hid D
  have HT := hid hth
  have HM' := hid hmono
  clear hth hmono
  go_enter Try.func10, Try.ntmps10
  go_wp2
  go_loopw [5, 6] (fun v5 v6 wr => ∃ (lo hi' : Nat), v5 = .int .i64 (lo : Nat) ∧ v6 = .int .i64 (hi' : Nat) ∧ lo ≤ i ∧ i ≤ hi' ∧ hi' ≤ T.length ∧ wr = w) (fun v5 v6 _ => (intOf v6).toNat - (intOf v5).toNat)
  case atStart => exact ⟨0, T.length, rfl, rfl, by omega, by omega, by omega, rfl⟩
  case round =>
    obtain ⟨lo, hh, rfl, rfl, h2, h3, h4, rfl⟩ := hrel
    by_cases e : lo < hh
    · have eI : (lo : Int) < (hh : Int) := by omega
      have hq : (lo + hh) / 2 < T.length := by omega
      have hqI : (((lo + hh) / 2 : Nat) : Int) < (T.length : Int) := by omega
      have hw1 : IntKind.i64.wrap ((lo : Int) + (hh : Int)) = ((lo + hh : Nat) : Int) := by rw [IntWalk.i64_in _ (by omega)]; omega
      have hc := HT.out _ hq
      have hwm : IntKind.i64.wrap ((((lo + hh) / 2 : Nat) : Int) + 1) = (((lo + hh) / 2 + 1 : Nat) : Int) := by rw [IntWalk.i64_in _ (by omega)]; omega
      have hcmp := HM'.out _ hq
      by_cases h5 : (lo + hh) / 2 < i
      · have h6 := hcmp.2 h5
        go_wp2
        refine ⟨⟨(lo + hh) / 2 + 1, hh, congrArg (Value.int .i64) (by omega), rfl, by omega, h3, h4, trivial⟩, ?_⟩
        simp only [intOf]
        omega
      · have h6 : ¬ ((ad T ((lo + hh) / 2) : Int) < (ad T i : Int)) := fun h => h5 (hcmp.1 h)
        go_wp2
        refine ⟨⟨lo, (lo + hh) / 2, rfl, congrArg (Value.int .i64) (by omega), h2, by omega, by omega, trivial⟩, ?_⟩
        simp only [intOf]
        omega
    · have el : lo = i := by omega
      have eh : hh = i := by omega
      subst el
      subst eh
      have hc := HT.out _ hi
      go_wp2
      go_ret
      exact ⟨rfl, rfl⟩

set_option maxRecDepth 100000 in
set_option maxHeartbeats 8000000 in
theorem DUsed_any (w : World) (rb N : Nat) (T : List Th) (bs : Nat → Nat) (lv : Value) (D : DM w rb N T bs lv) :
    Calls Try.prog 18 #[.pointer (some ⟨rb, 0, none⟩)] w fun e w' => e = .returned (.int .i64 (used T : Nat)) ∧ ∃ q os, w' = grow (w.drewN q) os := by
  obtain ⟨a, cap, rfl, hl, -⟩ := row_slice D.row
  have h1 : w.cell? ⟨rb, 1, none⟩ = some (.slice a T.length cap) := by simp [World.cell?, D.hd]
  by_cases h0 : T.length = 0
  · obtain rfl : T = [] := List.length_eq_zero_iff.1 h0
    clear D hl
    go_enter Try.func18, Try.ntmps18
    go_wp2
    go_ret
    exact ⟨rfl, 0, #[], by rw [grow_empty]; rfl⟩
  · obtain ⟨g, rfl⟩ : ∃ g, a = some ⟨g, 0, none⟩ := hl.resolve_left h0
    have hl1 : T.length - 1 < T.length := by omega
    obtain ⟨t, ht⟩ : ∃ t, T[T.length - 1]? = some t := ⟨_, List.getElem?_eq_getElem hl1⟩
    obtain ⟨c0, c1, c2, c3⟩ := D.thing ht
    have hln := len_used T
    have hle := D.le
    have hmx := D.max
    have hus : used T = ad T (T.length - 1) + (1 + t.l.length) := by
      rw [← ad_all]
      have := ad_succ ht
      rw [show T.length - 1 + 1 = T.length by omega] at this
      rw [this]
      have : t.size = t.l.length + 1 := rfl
      omega
    have hne : ¬ ((T.length : Int) = 0) := by omega
    have hw1 : IntKind.i64.wrap ((T.length : Int) - 1) = ((T.length - 1 : Nat) : Int) := by rw [IntWalk.i64_in _ (by omega)]; omega
    have hw2 : IntKind.i64.wrap (((ad T (T.length - 1) : Nat) : Int) + 1) = ((ad T (T.length - 1) : Nat) : Int) + 1 := IntWalk.i64_in _ (by omega)
    have hw3 : IntKind.i64.wrap (((ad T (T.length - 1) : Nat) : Int) + 1 + (t.l.length : Int)) = ((ad T (T.length - 1) : Nat) : Int) + 1 + (t.l.length : Int) := IntWalk.i64_in _ (by omega)
    have hI : ((T.length - 1 : Nat) : Int) < (T.length : Int) := by omega
    have hus' := hid hus
    have hal : ∀ {x : Addr} {v : Value} (o : Obj), w.cell? x = some v → (w.alloc o).drew.cell? x = some v := fun o h => Lib.cell?_alloc_some (W := w) o h
    have a1 := fun o => hal o h1
    have a2 := fun o => hal o c0
    have a3 := fun o => hal o c1
    have a4 := fun o => hal o c2
    have a5 := fun o => hal o c3
    clear D hl hus ht hal
    go_enter Try.func18, Try.ntmps18
    go_wp2
    go_region
    have f0 : ∀ (x y z q : Value), (w.alloc (.cells #[x, y, z, q] 46)).drew.cell? ⟨w.heap.size, 0, none⟩ = some x := fun x y z q => by
      have := World.alloc_heap_new w (.cells #[x, y, z, q] 46)
      show (w.alloc (.cells #[x, y, z, q] 46)).cell? _ = _
      unfold World.cell?
      rw [this]
      rfl
    have f3 : ∀ (x y z q : Value), (w.alloc (.cells #[x, y, z, q] 46)).drew.cell? ⟨w.heap.size, 3, none⟩ = some q := fun x y z q => by
      have := World.alloc_heap_new w (.cells #[x, y, z, q] 46)
      show (w.alloc (.cells #[x, y, z, q] 46)).cell? _ = _
      unfold World.cell?
      rw [this]
      rfl
    clear a1 a2 a3 a4 a5
    go_wp2
    go_ret
    refine ⟨?_, 1, #[.cells #[.int .i64 (ad T (T.length - 1) : Nat), .int .i64 t.kind, .int .i64 t.tag, .slice (some ⟨bs (T.length - 1), 0, none⟩) t.l.length t.l.length] 46], ?_⟩
    · rw [hus'.out]
      exact congrArg (fun z => Ending.returned (Value.int .i64 z)) (by omega)
    · rw [show (w.alloc _).drew = (w.drewN 1).alloc _ from rfl, alloc_eq_grow]
end Go.Proofs.Ytidgppghakmkaaa
