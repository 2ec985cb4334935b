/-
  A field is another one, in both heaps, at the law's state.
-/
import Derived.Test.YtidgppghakmkaaaKd
set_option linter.unusedVariables false
set_option linter.unusedSimpArgs false
namespace Go.Proofs.Ytidgppghakmkaaa
open Go.RowKit Go.Shelf Hp Go.Sort

namespace Hp
theorem setC_length (T : List Th) (i j : Nat) (c : Cl) : (setC T i j c).length = T.length := by
  unfold setC
  split <;> simp
theorem setC_dOf {T : List Th} {i j : Nat} {c : Cl} {t : Th} (ht : T[i]? = some t) (bs : Nat → Nat) (q : Nat) : dOf (setC T i j c) bs q = dOf T bs q := by
  unfold dOf
  rw [setC_ad]
  by_cases e : q = i
  · subst e
    rw [thOf_at (setC_at ht), thOf_at ht]
    simp
  · have : thOf (setC T i j c) q = thOf T q := by unfold thOf; rw [setC_other e]
    rw [this]
end Hp
theorem LS.setf {w W W2 : World} {hb g N rb ca cb : Nat} {T : List Th} {f f2 : Nat → PC} {bs : Nat → Nat} {lv : Value} {r : Nat → Cl} (h : LS w W hb g N rb ca cb T f bs lv r) {k j : Nat} {t : Th} (ht : T[k]? = some t) (hj : j < t.l.length) (c : Cl) (hcv : c.ptr = true → ∃ q, Is T c.n q) {W1 : World}
    (hW1 : W1 = (W.setCell ⟨bs k, j * 2, none⟩ (.bool c.ptr)).setCell ⟨bs k, j * 2 + 1, none⟩ (.int .i64 c.n)) :
    HM W1 hb g N f (used T) ∧ Ch (fun _ => False) w W1 ∧ RtsM W1 ca r ∧ (HM W2 hb g N f2 (used T) → Lay (setC T k j c) f2 (g0 (setC T k j c)) → Ch (fun q => q = g) W1 W2 → LS w W2 hb g N rb ca cb (setC T k j c) f2 bs lv r) := by
  subst hW1
  have hk := (List.getElem?_eq_some_iff.1 ht).1
  obtain ⟨n1, n2, n3, n4⟩ := h.no (bs k) (.inr (.inr ⟨k, hk, rfl⟩))
  obtain ⟨l1, l2, l3, l4⟩ := h.lo
  obtain ⟨m1, m2, m3, m4, m5⟩ := h.ne
  have hbk := h.ow (bs k) (.inr (.inr ⟨k, hk, rfl⟩))
  have hch : Ch (fun q => q = bs k) W ((W.setCell ⟨bs k, j * 2, none⟩ (.bool c.ptr)).setCell ⟨bs k, j * 2 + 1, none⟩ (.int .i64 c.n)) := (Ch.setCell (O := fun q => q = bs k) W ⟨bs k, j * 2, none⟩ _ rfl).set (a := ⟨bs k, j * 2 + 1, none⟩) rfl _
  have z1 : hb < W.heap.size := (Array.getElem?_eq_some_iff.1 h.hm.hd).1
  have z2 : g < W.heap.size := (Array.getElem?_eq_some_iff.1 h.hm.row).1
  have z3 : ca < W.heap.size := (Array.getElem?_eq_some_iff.1 h.ra).1
  have z4 : cb < W.heap.size := (Array.getElem?_eq_some_iff.1 h.rc).1
  have H1 : HM ((W.setCell ⟨bs k, j * 2, none⟩ (.bool c.ptr)).setCell ⟨bs k, j * 2 + 1, none⟩ (.int .i64 c.n)) hb g N f (used T) := ⟨(hch.same hb z1 (Ne.symm n1)).trans h.hm.hd, (hch.same g z2 (Ne.symm n2)).trans h.hm.row, h.hm.ne, h.hm.le, h.hm.max⟩
  have ha1 := (hch.same ca z3 (Ne.symm n3)).trans h.ra
  have hr1 := (hch.same cb z4 (Ne.symm n4)).trans h.rc
  have hcw : Ch (fun _ => False) w ((W.setCell ⟨bs k, j * 2, none⟩ (.bool c.ptr)).setCell ⟨bs k, j * 2 + 1, none⟩ (.int .i64 c.n)) := h.ch.trans hch (fun q hq => .inr (by omega))
  have hfk : ((W.setCell ⟨bs k, j * 2, none⟩ (.bool c.ptr)).setCell ⟨bs k, j * 2 + 1, none⟩ (.int .i64 c.n)).heap[bs k]? = some (.cells (rowK (clOf (setC T k j c) k) t.l.length) 43 (0, 0)) := by
    have h1 := blk_set (i := j * 2) (v := .bool c.ptr) (h.dm.fld k t ht)
    rw [rowK_setp (clOf T k) (fun q => if q = j then ⟨c.ptr, (clOf T k j).n⟩ else clOf T k q) hj c.ptr (by simp) (fun q _ hq => by simp [hq])] at h1
    have h2 := blk_set (i := j * 2 + 1) (v := .int .i64 c.n) h1
    rw [rowK_setn (fun q => if q = j then ⟨c.ptr, (clOf T k j).n⟩ else clOf T k q) (clOf (setC T k j c) k) hj c.n (by rw [clOf_at (setC_at ht)]; simp [List.getD, hj]) (fun q hq hne => by
      rw [clOf_at (setC_at ht)]
      simp [List.getD, List.getElem?_set, Ne.symm hne, hne, clOf_at ht])] at h2
    exact h2
  have D1 : DM ((W.setCell ⟨bs k, j * 2, none⟩ (.bool c.ptr)).setCell ⟨bs k, j * 2 + 1, none⟩ (.int .i64 c.n)) rb N (setC T k j c) bs lv := by
    have hlen := setC_length T k j c
    refine ⟨(hch.same rb (h.dm.lt (.inl rfl)) (fun e => h.dm.nrb k hk e.symm)).trans h.dm.hd, ?_, fun i u hu => ?_, ?_, ?_, ?_, h.dm.lrb, by rw [setC_used]; exact h.dm.le, h.dm.max⟩
    · rw [hlen, xsT_ext (d' := dOf T bs) (fun q _ => setC_dOf ht bs q)]
      exact ownsRow_keep h.dm.row (fun q hq => hch.same q (ownsRow_lt h.dm.row hq) (fun e => h.dm.nlv k hk (by rw [hq, e])))
    · by_cases e : i = k
      · subst e
        rw [setC_at ht] at hu
        obtain rfl := Option.some.inj hu
        simpa using hfk
      · rw [setC_other e] at hu
        have hi := (List.getElem?_eq_some_iff.1 hu).1
        have h3 := h.dm.fld i u hu
        rw [hch.same _ (Array.getElem?_eq_some_iff.1 h3).1 (fun e2 => e (h.dm.inj i k hi hk e2)), h3]
        have : clOf (setC T k j c) i = clOf T i := by funext q; unfold clOf; rw [setC_other e]
        rw [this]
    · rw [hlen]; exact h.dm.inj
    · rw [hlen]; exact h.dm.nrb
    · rw [hlen]; exact h.dm.nlv
  refine ⟨H1, hcw, ha1, fun H2 hL2 hc2 => ?_⟩
  have hown : ∀ q, DOwn rb (setC T k j c) bs lv q → DOwn rb T bs lv q := fun q hq => by
    unfold DOwn at hq ⊢
    rw [setC_length] at hq
    exact hq
  have z := hch.size
  refine ⟨by rw [setC_used]; exact H2, hL2, TOk_setC h.ok ht, WF_setC h.wf ht hcv, D1.keep (fun q hq => hc2.same q (D1.lt hq) (h.no q (hown q hq)).2.1), (hc2.same ca (by omega) m2).trans ha1, (hc2.same cb (by omega) m5).trans hr1, fun i hi hp => ?_, hcw.trans hc2 (fun q hq => .inr (by omega)), h.lo, fun q hq => h.ow q (hown q hq), h.ne, fun q hq => h.no q (hown q hq)⟩
  obtain ⟨q, hq⟩ := h.rv i hi hp
  exact ⟨q, Is_setC hq⟩
end Go.Proofs.Ytidgppghakmkaaa
