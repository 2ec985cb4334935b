/-
  The document's Cut.
-/
import Derived.Test.YtknjbiineihgfaaRe
set_option linter.unusedVariables false
set_option linter.unusedSimpArgs false
namespace Go.Proofs.Ytknjbiineihgfaa
open Go.RowKit

/-- What the document's Cut answers and leaves. -/
def RCutPost (w : World) (c : Nat) (v : Value) (L : List Rn) (k : Int) (deep : Bool) (e : Ending) (w' : World) : Prop :=
  ((findN k (L.map Rn.s) (L.length - 1)).1 = 0 ∧ e = .returned (.tuple #[.slice none 0 0, .int .i64 0, .bool false]) ∧ Same w w') ∨
  (∃ n y q M v', (findN k (L.map Rn.s) (L.length - 1)).1 = n + 1 ∧ L[n + 1]? = some y ∧ e = .returned (.tuple #[q, .int .i64 y.s.tag, .bool true]) ∧ RtM w' c v' (L.take (n + 1)) ∧ RsM w' q M ∧ M.map Rn.s = (if deep then y.s else unS y.s) :: (L.drop (n + 2)).map Rn.s ∧
    (∀ j, rown q M j → w.heap.size ≤ j) ∧ Ch (rtown c v L) w w' ∧ ∀ j, rtown c v' (L.take (n + 1)) j → rtown c v L j)
def frN (k : Int) (T : List Sg) : Nat → Nat
  | 0 => 0
  | m + 1 => (findN k T m).1

set_option maxHeartbeats 8000000 in
theorem rcut_any (w : World) (c : Nat) (v : Value) (L : List Rn) (k : Int) (deep : Bool) (h : RtM w c v L) (hL : L.length < 1000000) (hl : ∀ r ∈ L, r.s.l.length < 1000000000) (r0 : Rn) (hr0 : L[0]? = some r0) (hh0 : r0.s.has = false) :
    Calls Try.prog 20 #[.pointer (some ⟨c, 0, none⟩), .int .i64 k, .bool deep] w fun e w' => RCutPost w c v L k deep e w' := by
  obtain ⟨h0, hf0⟩ := h.cell
  have hL0 : 0 < L.length := (List.getElem?_eq_some_iff.1 hr0).1
  obtain ⟨g, cap, rfl, hcap⟩ := h.rs.form hL0
  have hcl : c < w.heap.size := h.lt (.inl rfl)
  have hgl : g < w.heap.size := h.lt (.inr (.inl rfl))
  have hw1 : IntKind.i64.wrap ((L.length : Int) - 1) = (L.length : Int) - 1 := IntWalk.i64_in _ (by omega)
  obtain ⟨T, hT⟩ : ∃ T, L.map Rn.s = T := ⟨_, rfl⟩
  have hrd := h.rs.read 0
  rw [List.drop_zero] at hrd
  go_enter Try.func20, Try.ntmps20
  go_wp2
  go_loopw [9] (fun i wr => ∃ m : Nat, i = .int .i64 ((m : Int) - 1) ∧ m ≤ L.length ∧ wr = w ∧ Hid ((findN k T (L.length - 1)).1 = frN k T m)) (fun i _ => (intOf i + 1).toNat)
  case atStart =>
    refine ⟨L.length, rfl, Nat.le_refl _, rfl, ?_⟩
    obtain ⟨n, hn⟩ : ∃ n, L.length = n + 1 := ⟨L.length - 1, by omega⟩
    rw [hn]; rfl
  case round =>
    obtain ⟨m, rfl, hm, rfl, HN⟩ := hrel
    cases m with
    | zero =>
      go_wp2
      refine bodyPost_ret (v := .tuple #[.slice none 0 0, .int .i64 0, .bool false]) (by simp [results, Try.results20, go_sem]) rfl ?_
      exact .inl ⟨by rw [hT]; exact HN.out, rfl, rfl⟩
    | succ m =>
      obtain ⟨y, hy⟩ : ∃ y, L[m]? = some y := ⟨L[m], by simp⟩
      have hTm : T[m]? = some y.s := by rw [← hT, List.getElem?_map, hy]; rfl
      obtain ⟨d0, d1, d2⟩ := hrd.cs m y hy
      simp only [Nat.zero_mul, Nat.zero_add] at d0 d1 d2
      have hks : ((m + 1 : Nat) : Int) - 1 = (m : Int) := by omega
      rw [hks]
      have hi0 : (0 : Int) ≤ (m : Int) := by omega
      have hi1 : (m : Int) < (L.length : Int) := by omega
      have hw2 : IntKind.i64.wrap ((m : Int) - 1) = (m : Int) - 1 := IntWalk.i64_in _ (by omega)
      cases hh : y.s.has with
      | false =>
        rw [hh] at d0
        have HN2 : Hid ((findN k T (L.length - 1)).1 = frN k T m) := by
          cases m with
          | zero => exact HN.out
          | succ m' =>
            have e1 : findN k T (m' + 1) = findN k T m' := by rw [findN, hTm]; simp [hh]
            have := HN.out
            simp only [frN] at this ⊢
            rw [this, e1]
            exact hid rfl
        clear HN hTm
        go_wp2
        go_roundw
        case rel => exact ⟨m, rfl, by omega, trivial, HN2⟩
        case measure => simp [intOf]
      | true =>
        rw [hh] at d0
        obtain ⟨m', rfl⟩ : ∃ m', m = m' + 1 := by
          cases m with
          | zero => rw [hr0] at hy; cases hy; rw [hh0] at hh; cases hh
          | succ m' => exact ⟨m', rfl⟩
        by_cases ht : y.s.tag.tmod 3 = k
        · have hFN : (findN k T (L.length - 1)).1 = m' + 1 := by
            have e1 : (findN k T (m' + 1)).1 = m' + 1 := by rw [findN, hTm]; simp [hh, ht]
            have := HN.out
            simp only [frN] at this
            rw [this, e1]
          have hb : (y.s.tag.tmod 3 == k) = true := by simpa using ht
          have hrd2 := h.rs.read (m' + 1)
          have hdl : (L.drop (m' + 1)).length = L.length - (m' + 1) := by simp
          have hcopy := copied_any wr g ((m' + 1) * 3) (cap - (m' + 1)) (L.drop (m' + 1)) hrd2 (by omega) (fun r hr => hl r (List.mem_of_mem_drop hr)) (by omega)
          rw [hdl] at hcopy
          have hcn : ¬ cap = m' + 1 := by omega
          have k2 : (m' : Int) + 1 ≤ (L.length : Int) := by omega
          have k3 : ((L.length : Nat) : Int) ≤ (cap : Int) := by omega
          have k4 : (m' : Int) + 1 ≤ (cap : Int) := by omega
          have k1 : (0 : Int) ≤ (m' : Int) + 1 := by omega
          have hdrop : L.drop (m' + 1) = y :: L.drop (m' + 2) := by
            have hlt : m' + 1 < L.length := by omega
            rw [List.drop_eq_getElem_cons hlt]
            congr 1
            exact (List.getElem?_eq_some_iff.1 hy).2
          have hne : ¬ (L.length - (m' + 1) = 0) := by omega
          rw [hdrop] at hcopy
          replace hFN := hid hFN
          replace hdrop := hid hdrop
          clear HN hTm ht hdl hrd2
          go_upto_region 6 with (go_at_call 34; refine hcopy.mono ?_; clear hcopy; rintro e W1 ⟨q, M, rfl, hM, hMs, hnew, hc1⟩; dsimp only)
          have hMl : 0 < M.length := by have := congrArg List.length hMs; simp at this; omega
          obtain ⟨g2, cap2, rfl, hcap2⟩ := hM.form hMl
          obtain ⟨y', M', rfl⟩ : ∃ y' M', M = y' :: M' := by cases M with | nil => simp at hMl | cons a b => exact ⟨a, b, rfl⟩
          have hys : y'.s = y.s := by simpa using (List.cons.inj hMs).1
          have hMs' : M'.map Rn.s = (L.drop (m' + 2)).map Rn.s := (List.cons.inj hMs).2
          have e0 : W1.cell? ⟨g2, 0, none⟩ = some (.bool y.s.has) := by rw [← hys]; exact row_cell hM.row 0 _ rfl
          have e1 : W1.cell? ⟨g2, 1, none⟩ = some (.int .i64 y.s.tag) := by rw [← hys]; exact row_cell hM.row 1 _ rfl
          have ef : ∀ i, W1.frozen? ⟨g2, i, none⟩ = false := own_frozen hM.row
          have hg2 : wr.heap.size ≤ g2 := hnew g2 (.inl rfl)
          have hg2l : g2 < W1.heap.size := ownsRow_lt hM.row rfl
          have x0 : W1.cell? ⟨c, 0, none⟩ = some (.slice (some ⟨g, 0, none⟩) L.length cap) := (hc1.cell (p := ⟨c, 0, none⟩) hcl (fun h => h)).trans h0
          have xf : W1.frozen? ⟨c, 0, none⟩ = false := (hc1.frozen (p := ⟨c, 0, none⟩) hcl (fun h => h)).trans hf0
          have hcg : c ≠ g2 := by omega
          have hcg2 : g2 ≠ c := by omega
          have hc1o : ∀ j, rtown c (.slice (some ⟨g, 0, none⟩) L.length cap) L j → W1.heap[j]? = wr.heap[j]? := fun j hj => hc1.same j (h.lt hj) (fun h => h)
          have h1 : RtM W1 c (.slice (some ⟨g, 0, none⟩) L.length cap) L := h.keep hc1o
          have hone : (0 : Int) < ((y' :: M').length : Int) := by rw [List.length_cons]; omega
          clear h0 hf0 hrd d0 d1 d2
          cases deep with
          | true =>
            go_wp2
            refine bodyPost_ret (v := .tuple #[.slice (some ⟨g2, 0, none⟩) (y' :: M').length cap2, .int .i64 y.s.tag, .bool true]) (by simp [results, Try.results20, go_sem]) rfl ?_
            obtain ⟨f1, f2, f3⟩ := h1.cut (m := m' + 1) (by omega)
            refine .inr ⟨m', y, _, y' :: M', _, by rw [hT]; exact hFN.out, hy, rfl, f1, hM.keep (fun j hj => Below.heap_setCell _ _ _ j (fun e => ?_)), ?_, hnew, (hc1.mono (fun _ h => h.elim)).trans f2 (fun j hj => .inl hj), fun j hj => ?_⟩
            · have := hnew j hj; have e2 : j = c := e; omega
            · simp [hys, hMs']
            · exact f3 j hj
          | false =>
            go_wp2
            refine bodyPost_ret (v := .tuple #[.slice (some ⟨g2, 0, none⟩) (y' :: M').length cap2, .int .i64 y.s.tag, .bool true]) (by simp [results, Try.results20, go_sem]) rfl ?_
            have hcW : Ch (fun j => j = g2) W1 ((W1.setCell ⟨g2, 0, none⟩ (.bool false)).setCell ⟨g2, 1, none⟩ (.int .i64 0)) := ((Ch.refl (fun j => j = g2) W1).set (a := ⟨g2, 0, none⟩) rfl _).set (a := ⟨g2, 1, none⟩) rfl _
            have hM2 : RsM ((W1.setCell ⟨g2, 0, none⟩ (.bool false)).setCell ⟨g2, 1, none⟩ (.int .i64 0)) (.slice (some ⟨g2, 0, none⟩) (y' :: M').length cap2) (⟨y'.u, unS y'.s⟩ :: M') := by
              have hmem : ∀ q ∈ (⟨y'.u, unS y'.s⟩ :: M' : List Rn), ∃ q' ∈ y' :: M', q.u = q'.u ∧ q.s.l = q'.s.l := fun q hq => by
                rcases List.mem_cons.1 hq with rfl | hq
                · exact ⟨y', by simp, rfl, rfl⟩
                · exact ⟨q, by simp [hq], rfl, rfl⟩
              refine ⟨?_, fun q hq => ?_, ?_, fun q hq j hj => ?_⟩
              · have := own_set (own_set hM.row 0 (.bool false) (by rw [rflat_len, List.length_cons]; omega)) 1 (.int .i64 0) (by rw [List.length_set, rflat_len, List.length_cons]; omega)
                simpa [Rn.cells, unS] using this
              · obtain ⟨q', hq', e1, e2⟩ := hmem q hq
                rw [e1, e2]
                exact ownsRow_keep (hM.us q' hq') (fun j hj => hcW.same j (ownsRow_lt (hM.us q' hq') hj) (fun e => hM.dv q' hq' j hj (by rw [e]; rfl)))
              · have := hM.ds
                rw [List.pairwise_cons] at this ⊢
                exact this
              · obtain ⟨q', hq', e1, _⟩ := hmem q hq
                rw [e1] at hj
                exact hM.dv q' hq' j hj
            have hrn : ∀ j, rown (.slice (some ⟨g2, 0, none⟩) (y' :: M').length cap2) (⟨y'.u, unS y'.s⟩ :: M') j → wr.heap.size ≤ j := fun j hj => by
              rcases hj with e | ⟨q, hq, e⟩
              · exact hnew j (.inl e)
              · rcases List.mem_cons.1 hq with rfl | hq
                · exact hnew j (.inr ⟨y', by simp, e⟩)
                · exact hnew j (.inr ⟨q, by simp [hq], e⟩)
            have h2 := h1.keep (w' := (W1.setCell ⟨g2, 0, none⟩ (.bool false)).setCell ⟨g2, 1, none⟩ (.int .i64 0)) (fun j hj => hcW.same j (h1.lt hj) (fun e => by have := h.lt hj; omega))
            obtain ⟨f1, f2, f3⟩ := h2.cut (m := m' + 1) (by omega)
            have hcA : Ch (rtown c (.slice (some ⟨g, 0, none⟩) L.length cap) L) wr ((W1.setCell ⟨g2, 0, none⟩ (.bool false)).setCell ⟨g2, 1, none⟩ (.int .i64 0)) := (hc1.mono (fun _ h => h.elim)).trans hcW (fun j e => .inr (by omega))
            refine .inr ⟨m', y, _, ⟨y'.u, unS y'.s⟩ :: M', _, by rw [hT]; exact hFN.out, hy, rfl, f1, hM2.keep (fun j hj => Below.heap_setCell _ _ _ j (fun e => ?_)), ?_, hrn, hcA.trans f2 (fun j hj => .inl hj), fun j hj => ?_⟩
            · have := hrn j hj; have e2 : j = c := e; omega
            · simp [hys, hMs']
            · exact f3 j hj
        · have hb : (y.s.tag.tmod 3 == k) = false := by simpa using ht
          have HN2 : Hid ((findN k T (L.length - 1)).1 = frN k T (m' + 1)) := by
            have e1 : (findN k T (m' + 1)).1 = (findN k T m').1 := by rw [findN, hTm]; simp [hh, ht]
            have := HN.out
            simp only [frN] at this ⊢
            rw [this, e1]
            exact hid rfl
          clear HN hTm
          go_wp2
          go_roundw
          case rel => exact ⟨m' + 1, by simp, by omega, trivial, HN2⟩
          case measure => simp [intOf]; omega
end Go.Proofs.Ytknjbiineihgfaa
