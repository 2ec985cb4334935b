/-
  The state of the law's script: both heaps say the same things.
-/
import Derived.Test.YtidgppghakmkaaaKb
set_option linter.unusedVariables false
set_option linter.unusedSimpArgs false
namespace Go.Proofs.Ytidgppghakmkaaa
open scoped Classical
open Go.RowKit Go.Shelf Hp Go.Sort

namespace Hp
theorem TOk_coll {T : List Th} (h : TOk T) (m : Nat → Bool) : TOk (coll m T) := by
  intro t ht
  obtain ⟨r, hr⟩ := List.mem_iff_getElem?.1 ht
  obtain ⟨i, u, hu, _, rfl, _⟩ := coll_of hr
  exact h u (List.mem_of_getElem? hu)
theorem newC_is {T : List Th} {m : Nat → Bool} {c : Cl} {k : Nat} (hp : c.ptr = true) (hk : Is T c.n k) (hm : m k = true) : ∃ q, Is (coll m T) (newC m T c).n q := by
  refine ⟨rank m T k, ?_⟩
  simp only [newC, hp, if_true]
  exact new_is hk hm
theorem newC_ptr (T : List Th) (m : Nat → Bool) (c : Cl) : (newC m T c).ptr = c.ptr := by
  unfold newC
  split
  · rename_i h; rw [h]
  · rfl
theorem WF_coll {T : List Th} {m : Nat → Bool} (hK : Kpt T m) : WF (coll m T) := by
  intro q u hu c hc hp
  obtain ⟨i, t, ht, hm, rfl, _⟩ := coll_of hu
  obtain ⟨c0, hc0, rfl⟩ := List.mem_map.1 hc
  rw [newC_ptr] at hp
  obtain ⟨j, hj, e⟩ := List.getElem_of_mem hc0
  have ec : clOf T i j = c0 := by rw [clOf_at ht]; simp [List.getD, hj, e]
  obtain ⟨k, v, hv, hn, hmk⟩ := hK i t j ht hm hj (by rw [ec]; exact hp)
  rw [ec] at hn
  exact newC_is hp ⟨v, hv, hn⟩ hmk
theorem RV_coll {T : List Th} {r : Nat → Cl} (h : RV T r) : RV (coll (mR T r) T) (fun i => newC (mR T r) T (r i)) := by
  intro i hi hp
  rw [newC_ptr] at hp
  obtain ⟨k, hk⟩ := h i hi hp
  exact newC_is hp hk ((mR_iff T r k).2 (.root ((mem_roL r).2 ⟨i, hi, rfl⟩) hp hk))
theorem Is_snoc {T : List Th} {t : Th} {a : Int} {k : Nat} (h : Is T a k) : Is (T ++ [t]) a k := by
  obtain ⟨u, hu, rfl⟩ := h
  have hk := (List.getElem?_eq_some_iff.1 hu).1
  exact ⟨u, by rw [List.getElem?_append_left hk]; exact hu, by rw [ad_snoc _ (by omega)]⟩
theorem WF_snoc {T : List Th} (h : WF T) (kind tag : Int) (n : Nat) : WF (T ++ [newTh kind tag n]) := by
  intro i t ht c hc hp
  by_cases e : i < T.length
  · rw [List.getElem?_append_left e] at ht
    obtain ⟨k, hk⟩ := h i t ht c hc hp
    exact ⟨k, Is_snoc hk⟩
  · have hi : i = T.length := by
      have := (List.getElem?_eq_some_iff.1 ht).1
      simp at this
      omega
    subst hi
    obtain rfl : newTh kind tag n = t := by simpa using ht
    have := List.eq_of_mem_replicate hc
    rw [this] at hp
    cases hp
theorem TOk_snoc {T : List Th} (h : TOk T) {kind tag : Int} (n : Nat) (hk : 0 ≤ kind ∧ kind ≤ 4) (ht : 0 ≤ tag ∧ tag ≤ 65535) : TOk (T ++ [newTh kind tag n]) := by
  intro t hm
  rcases List.mem_append.1 hm with h1 | h1
  · exact h t h1
  · obtain rfl : t = newTh kind tag n := by simpa using h1
    exact ⟨hk, ht⟩
theorem Is_last (T : List Th) (t : Th) : Is (T ++ [t]) (used T : Nat) T.length := ⟨t, by simp, by rw [ad_snoc _ (Nat.le_refl _), ad_all]⟩
theorem Is_setC {T : List Th} {i j : Nat} {c : Cl} {a : Int} {k : Nat} (h : Is T a k) : Is (setC T i j c) a k := by
  obtain ⟨u, hu, rfl⟩ := h
  by_cases e : k = i
  · subst e
    exact ⟨_, setC_at hu, by rw [setC_ad]⟩
  · exact ⟨u, by rw [setC_other e]; exact hu, by rw [setC_ad]⟩
theorem WF_setC {T : List Th} (h : WF T) {i j : Nat} {c : Cl} {t : Th} (ht : T[i]? = some t) (hc : c.ptr = true → ∃ k, Is T c.n k) : WF (setC T i j c) := by
  intro q u hu d hd hp
  by_cases e : q = i
  · subst e
    rw [setC_at ht] at hu
    obtain rfl := Option.some.inj hu
    rcases List.mem_or_eq_of_mem_set hd with h1 | h1
    · obtain ⟨k, hk⟩ := h q t ht d h1 hp
      exact ⟨k, Is_setC hk⟩
    · subst h1
      obtain ⟨k, hk⟩ := hc hp
      exact ⟨k, Is_setC hk⟩
  · rw [setC_other e] at hu
    obtain ⟨k, hk⟩ := h q u hu d hd hp
    exact ⟨k, Is_setC hk⟩
theorem TOk_setC {T : List Th} (h : TOk T) {i j : Nat} {c : Cl} {t : Th} (ht : T[i]? = some t) : TOk (setC T i j c) := by
  intro u hu
  obtain ⟨q, hq⟩ := List.mem_iff_getElem?.1 hu
  by_cases e : q = i
  · subst e
    rw [setC_at ht] at hq
    obtain rfl := Option.some.inj hq
    exact h t (List.mem_of_getElem? ht)
  · rw [setC_other e] at hq
    exact h u (List.mem_of_getElem? hq)
end Hp

/-- Both heaps, at one list of things and one list of roots. -/
structure LS (w wr : World) (hb g N rb ca cb : Nat) (T : List Th) (f : Nat → PC) (bs : Nat → Nat) (lv : Value) (r : Nat → Cl) : Prop where
  hm : HM wr hb g N f (used T)
  ly : Lay T f (g0 T)
  ok : TOk T
  wf : WF T
  dm : DM wr rb N T bs lv
  ra : RtsM wr ca r
  rc : RtsM wr cb r
  rv : RV T r
  ch : Ch (fun _ => False) w wr
  lo : w.heap.size ≤ hb ∧ w.heap.size ≤ g ∧ w.heap.size ≤ ca ∧ w.heap.size ≤ cb
  ow : ∀ k, DOwn rb T bs lv k → w.heap.size ≤ k
  ne : ca ≠ hb ∧ ca ≠ g ∧ ca ≠ cb ∧ cb ≠ hb ∧ cb ≠ g
  no : ∀ k, DOwn rb T bs lv k → k ≠ hb ∧ k ≠ g ∧ k ≠ ca ∧ k ≠ cb
theorem LS.quiet {w wr wr' : World} {hb g N rb ca cb : Nat} {T : List Th} {f : Nat → PC} {bs : Nat → Nat} {lv : Value} {r : Nat → Cl} (h : LS w wr hb g N rb ca cb T f bs lv r) (hc : Ch (fun _ => False) wr wr') : LS w wr' hb g N rb ca cb T f bs lv r :=
  ⟨h.hm.keep hc, h.ly, h.ok, h.wf, h.dm.quiet hc, (hc.same ca (Array.getElem?_eq_some_iff.1 h.ra).1 (fun h => h)).trans h.ra, (hc.same cb (Array.getElem?_eq_some_iff.1 h.rc).1 (fun h => h)).trans h.rc, h.rv, h.ch.trans hc (fun _ h => h.elim), h.lo, h.ow, h.ne, h.no⟩
/-- The program's part is turned: the document's stands. -/
theorem LS.docs {w wr w1 : World} {hb g N rb ca cb : Nat} {T : List Th} {f : Nat → PC} {bs : Nat → Nat} {lv : Value} {r : Nat → Cl} (h : LS w wr hb g N rb ca cb T f bs lv r) (hc : Ch (fun k => k = g ∨ k = hb ∨ k = ca) wr w1) : DM w1 rb N T bs lv ∧ RtsM w1 cb r ∧ Ch (fun _ => False) w w1 := by
  obtain ⟨l1, l2, l3, l4⟩ := h.lo
  obtain ⟨n1, n2, n3, n4, n5⟩ := h.ne
  refine ⟨h.dm.keep (fun k hk => hc.same k (h.dm.lt hk) (by have := h.no k hk; omega)), (hc.same cb (Array.getElem?_eq_some_iff.1 h.rc).1 (by omega)).trans h.rc, h.ch.trans hc (fun k hk => .inr (by omega))⟩
/-- Both were turned, one after the other. -/
theorem LS.both {w wr w1 w2 : World} {hb g N rb ca cb : Nat} {T T1 : List Th} {f f1 : Nat → PC} {bs bs1 : Nat → Nat} {lv lv1 : Value} {r r1 : Nat → Cl} (h : LS w wr hb g N rb ca cb T f bs lv r) (hc1 : Ch (fun k => k = g ∨ k = hb ∨ k = ca) wr w1) (H1 : HM w1 hb g N f1 (used T1)) (hL1 : Lay T1 f1 (g0 T1)) (ha1 : RtsM w1 ca r1)
    (hc2 : Ch (fun k => DOwn rb T bs lv k ∨ k = cb) w1 w2) (D2 : DM w2 rb N T1 bs1 lv1) (hown : ∀ k, DOwn rb T1 bs1 lv1 k → DOwn rb T bs lv k ∨ w1.heap.size ≤ k) (hr2 : RtsM w2 cb r1) (hok : TOk T1) (hwf : WF T1) (hrv : RV T1 r1) : LS w w2 hb g N rb ca cb T1 f1 bs1 lv1 r1 := by
  obtain ⟨l1, l2, l3, l4⟩ := h.lo
  obtain ⟨n1, n2, n3, n4, n5⟩ := h.ne
  have hz := h.ch.size
  have hz1 := hc1.size
  have e1 : hb < w1.heap.size := (Array.getElem?_eq_some_iff.1 H1.hd).1
  have e2 : g < w1.heap.size := (Array.getElem?_eq_some_iff.1 H1.row).1
  have e3 : ca < w1.heap.size := (Array.getElem?_eq_some_iff.1 ha1).1
  have e4 : cb < wr.heap.size := (Array.getElem?_eq_some_iff.1 h.rc).1
  have no : ∀ k, (DOwn rb T bs lv k ∨ k = cb) → k ≠ hb ∧ k ≠ g ∧ k ≠ ca := fun k hk => by
    rcases hk with hk | rfl
    · have := h.no k hk; exact ⟨this.1, this.2.1, this.2.2.1⟩
    · exact ⟨n4, n5, Ne.symm n3⟩
  refine ⟨⟨(hc2.same hb e1 (fun e => (no hb e).1 rfl)).trans H1.hd, (hc2.same g e2 (fun e => (no g e).2.1 rfl)).trans H1.row, H1.ne, H1.le, H1.max⟩, hL1, hok, hwf, D2, (hc2.same ca e3 (fun e => (no ca e).2.2 rfl)).trans ha1, hr2, hrv, (h.docs hc1).2.2.trans hc2 (fun k hk => .inr ?_), h.lo, fun k hk => ?_, h.ne, fun k hk => ?_⟩
  · rcases hk with hk | rfl
    · exact h.ow k hk
    · exact l4
  · rcases hown k hk with h1 | h1
    · exact h.ow k h1
    · omega
  · rcases hown k hk with h1 | h1
    · exact h.no k h1
    · omega
/-- A root is another one, in both. -/
theorem RtsM.put {W : World} {cb : Nat} {r : Nat → Cl} (h : RtsM W cb r) {i : Nat} (hi : i < 6) (c : Cl) : RtsM ((W.setCell ⟨cb, i * 2, none⟩ (.bool c.ptr)).setCell ⟨cb, i * 2 + 1, none⟩ (.int .i64 c.n)) cb (fun j => if j = i then c else r j) := by
  have e0 : rowR r = rowK r 6 := rfl
  unfold RtsM at h ⊢
  rw [e0] at h
  have h1 := blk_set (i := i * 2) (v := .bool c.ptr) h
  rw [rowK_setp r (fun j => if j = i then ⟨c.ptr, (r i).n⟩ else r j) hi c.ptr (by simp) (fun j _ hj => by simp [hj])] at h1
  have h2 := blk_set (i := i * 2 + 1) (v := .int .i64 c.n) h1
  rw [rowK_setn (fun j => if j = i then ⟨c.ptr, (r i).n⟩ else r j) (fun j => if j = i then c else r j) hi c.n (by simp) (fun j _ hj => by simp [hj])] at h2
  exact h2
theorem LS.root {w wr : World} {hb g N rb ca cb : Nat} {T : List Th} {f : Nat → PC} {bs : Nat → Nat} {lv : Value} {r : Nat → Cl} (h : LS w wr hb g N rb ca cb T f bs lv r) {i : Nat} (hi : i < 6) (c : Cl) (hc : c.ptr = true → ∃ k, Is T c.n k) :
    LS w ((((wr.setCell ⟨ca, i * 2, none⟩ (.bool c.ptr)).setCell ⟨ca, i * 2 + 1, none⟩ (.int .i64 c.n)).setCell ⟨cb, i * 2, none⟩ (.bool c.ptr)).setCell ⟨cb, i * 2 + 1, none⟩ (.int .i64 c.n)) hb g N rb ca cb T f bs lv (fun j => if j = i then c else r j) := by
  obtain ⟨l1, l2, l3, l4⟩ := h.lo
  obtain ⟨n1, n2, n3, n4, n5⟩ := h.ne
  have hch : Ch (fun k => k = ca ∨ k = cb) wr ((((wr.setCell ⟨ca, i * 2, none⟩ (.bool c.ptr)).setCell ⟨ca, i * 2 + 1, none⟩ (.int .i64 c.n)).setCell ⟨cb, i * 2, none⟩ (.bool c.ptr)).setCell ⟨cb, i * 2 + 1, none⟩ (.int .i64 c.n)) :=
    (((Ch.setCell (O := fun k => k = ca ∨ k = cb) wr ⟨ca, i * 2, none⟩ _ (.inl rfl)).set (a := ⟨ca, i * 2 + 1, none⟩) (.inl rfl) _).set (a := ⟨cb, i * 2, none⟩) (.inr rfl) _).set (a := ⟨cb, i * 2 + 1, none⟩) (.inr rfl) _
  have hA := h.ra.put hi c
  have hcbA : RtsM ((wr.setCell ⟨ca, i * 2, none⟩ (.bool c.ptr)).setCell ⟨ca, i * 2 + 1, none⟩ (.int .i64 c.n)) cb r := blk_other (blk_other h.rc (Ne.symm n3)) (Ne.symm n3)
  have hB := hcbA.put hi c
  refine ⟨⟨(hch.same hb (Array.getElem?_eq_some_iff.1 h.hm.hd).1 (by omega)).trans h.hm.hd, (hch.same g (Array.getElem?_eq_some_iff.1 h.hm.row).1 (by omega)).trans h.hm.row, h.hm.ne, h.hm.le, h.hm.max⟩, h.ly, h.ok, h.wf, h.dm.keep (fun k hk => hch.same k (h.dm.lt hk) (by have := h.no k hk; omega)), blk_other (blk_other hA n3) n3, hB, fun j hj hp => ?_, h.ch.trans hch (fun k hk => .inr (by omega)), h.lo, h.ow, h.ne, h.no⟩
  by_cases e : j = i
  · subst e
    simp only [if_true] at hp ⊢
    exact hc hp
  · simp only [e, if_false] at hp ⊢
    exact h.rv j hj hp
end Go.Proofs.Ytidgppghakmkaaa
