/-
  The document's Collect.
-/
import Derived.Test.YtidgppghakmkaaaJd
set_option linter.unusedVariables false
set_option linter.unusedSimpArgs false
namespace Go.Proofs.Ytidgppghakmkaaa
open scoped Classical
open Go.RowKit Go.Shelf Hp Go.Sort
attribute [local simp] wide_fn

theorem Try.infoTh : (Try.prog.info? 46).map (fun i => (i.zero, i.size, i.bytes)) = some (some (.agg #[.int .i64 0, .int .i64 0, .int .i64 0, .slice none 0 0]), 4, 48) := by kernel_rfl
/-- What the document's heap has of its own. -/
def DOwn (rb : Nat) (T : List Th) (bs : Nat → Nat) (lv : Value) (k : Nat) : Prop := k = rb ∨ lv.ownBlock = some k ∨ ∃ i, i < T.length ∧ bs i = k
/-- While the kept things are gathered. -/
structure C1 (w wr : World) (mB : Nat) (T : List Th) (m : Nat → Bool) (bs : Nat → Nat) (i : Nat) (v : Value) : Prop where
  ch : Ch (fun _ => False) w wr
  inr : wr.heap[w.heap.size]? = some (.cells (bRow m T.length) 4 (0, 0))
  mp : MI wr mB (toL m T i)
  row : wr.ownsRow 0 46 4 v (upTo m i).length (xsT (dN m T bs) (upTo m i).length)
  nin : v.ownBlock ≠ some w.heap.size
  nmp : v.ownBlock ≠ some mB
  new : ∀ k, v.ownBlock = some k → w.heap.size ≤ k
theorem MI.keep {w w' : World} {mB : Nat} {l : List (Int × Int)} (h : MI w mB l) (hc : w'.heap[mB]? = w.heap[mB]?) : MI w' mB l := by
  obtain ⟨es, c, h1, h2⟩ := h
  exact ⟨es, c, hc.trans h1, h2⟩
theorem MI.lt {w : World} {mB : Nat} {l : List (Int × Int)} (h : MI w mB l) : mB < w.heap.size := by
  obtain ⟨es, c, h1, _⟩ := h
  exact (Array.getElem?_eq_some_iff.1 h1).1
theorem C1.quiet {w wr wr' : World} {mB : Nat} {T : List Th} {m : Nat → Bool} {bs : Nat → Nat} {i : Nat} {v : Value} (h : C1 w wr mB T m bs i v) (hc : Ch (fun _ => False) wr wr') : C1 w wr' mB T m bs i v :=
  ⟨h.ch.trans hc (fun _ h => .inl h), (hc.same _ (Array.getElem?_eq_some_iff.1 h.inr).1 (fun h => h)).trans h.inr, h.mp.keep (hc.same _ h.mp.lt (fun h => h)), ownsRow_keep h.row (fun k hk => hc.same k (ownsRow_lt h.row hk) (fun h => h)), h.nin, h.nmp, h.new⟩
theorem C1.skip {w wr : World} {mB : Nat} {T : List Th} {m : Nat → Bool} {bs : Nat → Nat} {i : Nat} {v : Value} (h : C1 w wr mB T m bs i v) (hm : m i = false) : C1 w wr mB T m bs (i + 1) v := by
  have e : upTo m (i + 1) = upTo m i := by rw [upTo_succ, hm]; simp
  exact ⟨h.ch, h.inr, by unfold toL; rw [e]; exact h.mp, by rw [e]; exact h.row, h.nin, h.nmp, h.new⟩

theorem new_many (w : World) (a : Array Value) (T : TypeId) (l : List Value) (h : a.toList = l) : ∀ j u, l[j]? = some u → (w.alloc (.cells a T)).cell? ((⟨w.heap.size, 0, none⟩ : Addr).add j) = some u := by
  intro j u hj
  have hb := World.alloc_heap_new w (.cells a T)
  rw [add_cell]
  simp only [World.cell?, hb]
  rw [← h, Array.getElem?_toList] at hj
  exact hj
namespace Hp
def rk (m : Nat → Bool) (x : Nat) : Nat := (upTo m x).length
/-- The fields while they are made new, up to field b of the a-th. -/
def fN (m : Nat → Bool) (T : List Th) (a b x : Nat) : Nat → Cl := fun j => if rk m x < a ∨ (rk m x = a ∧ j < b) then newC m T (clOf T x j) else clOf T x j
theorem fN_zero (m : Nat → Bool) (T : List Th) (x : Nat) : fN m T 0 0 x = clOf T x := by funext j; simp [fN]
theorem fN_next {m : Nat → Bool} {T : List Th} {a x j : Nat} {n : Nat} (h : rk m x = a → j < n) : fN m T a n x j = fN m T (a + 1) 0 x j := by
  unfold fN
  have : (rk m x < a ∨ rk m x = a ∧ j < n) ↔ (rk m x < a + 1 ∨ rk m x = a + 1 ∧ j < 0) := by
    constructor
    · intro h; omega
    · intro h2
      rcases Nat.lt_or_ge (rk m x) a with h3 | h3
      · exact .inl h3
      · have h4 : rk m x = a := by omega
        exact .inr ⟨h4, h h4⟩
  simp [this]
theorem rk_inj {m : Nat → Bool} {n x y : Nat} (hx : x < n) (hy : y < n) (mx : m x = true) (my : m y = true) (h : rk m x = rk m y) : x = y := by
  have h1 := upTo_at hx mx
  have h2 := upTo_at hy my
  unfold rk at h
  rw [h, h2] at h1
  exact (Option.some.inj h1).symm
end Hp
/-- While the fields are made new. -/
structure C2 (O : Nat → Prop) (w wr : World) (rb N mB : Nat) (T : List Th) (m : Nat → Bool) (bs : Nat → Nat) (v : Value) (a b : Nat) : Prop where
  ch : Ch O w wr
  hd : wr.heap[rb]? = some (.cells #[.int .i64 N, v] 30 (0, 0))
  mp : MI wr mB (toL m T T.length)
  row : wr.ownsRow 0 46 4 v (upTo m T.length).length (xsT (dN m T bs) (upTo m T.length).length)
  fld : ∀ x, x < T.length → m x = true → wr.heap[bs x]? = some (.cells (rowK (fN m T a b x) (thOf T x).l.length) 43 (0, 0))
  new : ∀ k, v.ownBlock = some k → w.heap.size ≤ k
  mnw : w.heap.size ≤ mB
/-- Only the fields of one thing are turned. -/
theorem C2.step {O : Nat → Prop} {w wr wr' : World} {rb N mB : Nat} {T : List Th} {m : Nat → Bool} {bs : Nat → Nat} {v : Value} {a b a' b' x : Nat} (h : C2 O w wr rb N mB T m bs v a b) (hc : Ch (fun k => k = bs x) wr wr') (hO : O (bs x)) (hx : bs x < w.heap.size) (hxr : bs x ≠ rb) (hinj : ∀ y, y < T.length → m y = true → y ≠ x → bs y ≠ bs x)
    (hf : wr'.heap[bs x]? = some (.cells (rowK (fN m T a' b' x) (thOf T x).l.length) 43 (0, 0))) (ho : ∀ y, y < T.length → m y = true → y ≠ x → ∀ j, j < (thOf T y).l.length → fN m T a b y j = fN m T a' b' y j) : C2 O w wr' rb N mB T m bs v a' b' := by
  have hmn := h.mnw
  have hml := h.mp.lt
  refine ⟨h.ch.trans hc (fun k hk => .inl (by rw [hk]; exact hO)), (hc.same rb (Array.getElem?_eq_some_iff.1 h.hd).1 (Ne.symm hxr)).trans h.hd, h.mp.keep (hc.same mB hml (by omega)), ownsRow_keep h.row (fun k hk => hc.same k (ownsRow_lt h.row hk) (by have := h.new k hk; omega)), fun y hy hm => ?_, h.new, h.mnw⟩
  by_cases e : y = x
  · subst e; exact hf
  · have h1 := h.fld y hy hm
    rw [hc.same _ (Array.getElem?_eq_some_iff.1 h1).1 (hinj y hy hm e), h1, rowK_ext (ho y hy hm e)]
theorem C2.as {O : Nat → Prop} {w wr : World} {rb N mB : Nat} {T : List Th} {m : Nat → Bool} {bs : Nat → Nat} {v : Value} {a b a' b' : Nat} (h : C2 O w wr rb N mB T m bs v a b) (ho : ∀ y, y < T.length → m y = true → ∀ j, j < (thOf T y).l.length → fN m T a b y j = fN m T a' b' y j) : C2 O w wr rb N mB T m bs v a' b' :=
  ⟨h.ch, h.hd, h.mp, h.row, fun y hy hm => by rw [h.fld y hy hm, rowK_ext (ho y hy hm)], h.new, h.mnw⟩

/-- Other blocks are turned. -/
theorem C2.other {O O' : Nat → Prop} {w wr wr' : World} {rb N mB : Nat} {T : List Th} {m : Nat → Bool} {bs : Nat → Nat} {v : Value} {a b : Nat} {D : Nat → Prop} (h : C2 O w wr rb N mB T m bs v a b) (hc : Ch D wr wr') (hO : ∀ k, O k → O' k) (hD : ∀ k, D k → O' k ∨ w.heap.size ≤ k) (d1 : ¬ D rb) (d2 : ¬ D mB) (d3 : ∀ k, v.ownBlock = some k → ¬ D k) (d4 : ∀ x, x < T.length → m x = true → ¬ D (bs x)) : C2 O' w wr' rb N mB T m bs v a b :=
  ⟨(h.ch.mono hO).trans hc hD, (hc.same rb (Array.getElem?_eq_some_iff.1 h.hd).1 d1).trans h.hd, h.mp.keep (hc.same mB h.mp.lt d2), ownsRow_keep h.row (fun k hk => hc.same k (ownsRow_lt h.row hk) (d3 k hk)), fun x hx hm => (hc.same _ (Array.getElem?_eq_some_iff.1 (h.fld x hx hm)).1 (d4 x hx hm)).trans (h.fld x hx hm), h.new, h.mnw⟩
def rH (m : Nat → Bool) (T : List Th) (r : Nat → Cl) (i : Nat) : Nat → Cl := fun j => if j < i then newC m T (r j) else r j
theorem MPt.lt {w : World} {mB : Nat} {l : List Addr} (h : MPt w mB l) : mB < w.heap.size := by
  obtain ⟨es, c, h1, _⟩ := h
  exact (Array.getElem?_eq_some_iff.1 h1).1
theorem MPt.keep {w w' : World} {mB : Nat} {l : List Addr} (h : MPt w mB l) (hc : w'.heap[mB]? = w.heap[mB]?) : MPt w' mB l := by
  obtain ⟨es, c, h1, h2⟩ := h
  exact ⟨es, c, hc.trans h1, h2⟩
/-- While the roots are made new. -/
structure C3 (O : Nat → Prop) (w wr : World) (rb N mB dB pb cb : Nat) (T : List Th) (m : Nat → Bool) (bs : Nat → Nat) (v : Value) (r : Nat → Cl) (i : Nat) : Prop where
  c2 : C2 O w wr rb N mB T m bs v (upTo m T.length).length 0
  rt : RtsM wr cb (rH m T r i)
  pl : PlM wr pb cb
  dm : ∃ l, MPt wr dB l ∧ ∀ b ∈ l, ∃ j, j < i ∧ b = ⟨cb, j * 2, none⟩
  dn : w.heap.size ≤ dB
  dmB : dB ≠ mB
  dv : v.ownBlock ≠ some dB
/-- The document's heap after Collect. -/
theorem C2.done {O : Nat → Prop} {w wr : World} {rb N mB : Nat} {T : List Th} {m : Nat → Bool} {bs : Nat → Nat} {lv v : Value} (h : C2 O w wr rb N mB T m bs v (upTo m T.length).length 0) (D : DM w rb N T bs lv) : DM wr rb N (coll m T) (fun r => bs (nth m T r)) v := by
  have hlen := coll_len m T
  have hrl : rb < w.heap.size := D.lt (.inl rfl)
  refine ⟨h.hd, ?_, fun i u hu => ?_, fun i j hi hj e => ?_, fun i hi => ?_, fun i hi e => ?_, fun e => ?_, ?_, D.max⟩
  · rw [hlen, xsT_ext (d' := dN m T bs) (fun i hi => dN_coll hi)]
    exact h.row
  · obtain ⟨x, t, ht, hm, rfl, rfl⟩ := coll_of hu
    have hx := (List.getElem?_eq_some_iff.1 ht).1
    have e : nth m T (rank m T x) = x := by rw [rank_upTo m T x (by omega)]; exact nth_at hx hm
    show wr.heap[bs (nth m T (rank m T x))]? = _
    rw [e, h.fld x hx hm, thOf_at ht]
    have el : (newT m T t).l.length = t.l.length := by simp [newT]
    rw [el, rowK_ext (fun j hj => ?_)]
    have hrk : rk m x < (upTo m T.length).length := (List.getElem?_eq_some_iff.1 (upTo_at hx hm)).1
    have h1 : fN m T (upTo m T.length).length 0 x j = newC m T (clOf T x j) := by simp [fN, hrk]
    rw [h1, clOf_at hu, clOf_at ht]
    simp [newT, List.getD, hj]
  · rw [hlen] at hi hj
    obtain ⟨a1, a2, a3⟩ := nth_of hi
    obtain ⟨b1, b2, b3⟩ := nth_of hj
    have := D.inj _ _ a1 b1 e
    rw [a3, b3, this]
  · rw [hlen] at hi
    exact D.nrb _ (nth_of hi).1
  · rw [hlen] at hi
    have h1 := h.new _ e
    have h2 := D.lt (.inr (.inr ⟨_, (nth_of hi).1, rfl⟩))
    omega
  · have := h.new _ e
    omega
  · rw [coll_used]
    have := nad_le m T T.length (Nat.le_refl _)
    rw [ad_all] at this
    exact Nat.le_trans this D.le

set_option maxRecDepth 100000 in
set_option maxHeartbeats 16000000 in
theorem DCollect_any (w : World) (rb N : Nat) (T : List Th) (bs : Nat → Nat) (lv : Value) (D : DM w rb N T bs lv) (hwf : WF T) (pb pc cb : Nat) (r : Nat → Cl) (hp : PlM w pb cb) (hr : RtsM w cb r) (hrv : RV T r) (hcb : ¬ DOwn rb T bs lv cb) (hpo : ¬ DOwn rb T bs lv pb) (hcp : cb ≠ pb) :
    Calls Try.prog 14 #[.pointer (some ⟨rb, 0, none⟩), .slice (some ⟨pb, 0, none⟩) 6 pc] w fun e w' => e = .returned (.int .i64 (used (coll (mR T r) T) : Nat)) ∧
      (∃ bs' lv', DM w' rb N (coll (mR T r) T) bs' lv' ∧ ∀ k, DOwn rb (coll (mR T r) T) bs' lv' k → DOwn rb T bs lv k ∨ w.heap.size ≤ k) ∧ RtsM w' cb (fun i => newC (mR T r) T (r i)) ∧ Ch (fun k => DOwn rb T bs lv k ∨ k = cb) w w' := by
  have HRe := Reached_any w rb N T bs lv D hwf pb pc cb r hp hr hrv
  obtain ⟨la, lcap, elv, hla, -⟩ := row_slice D.row
  have hln := len_used T
  have hle := D.le
  have hmx := D.max
  have hKp := mR_kept hwf r
  have hrm : ∀ j, j < 6 → (r j).ptr = true → ∃ k t, T[k]? = some t ∧ (r j).n = (ad T k : Nat) ∧ mR T r k = true := fun j hj hjp => by
    obtain ⟨k, t, ht, hn⟩ := hrv j hj hjp
    exact ⟨k, t, ht, hn, (mR_iff T r k).2 (.root ((mem_roL r).2 ⟨j, hj, rfl⟩) hjp ⟨t, ht, hn⟩)⟩
  generalize mR T r = m at *
  have hcl : cb < w.heap.size := (Array.getElem?_eq_some_iff.1 hr).1
  have hpl : pb < w.heap.size := block_lt_of_cell (hp 0 (by omega))
  have hold : ∀ wr, Ch (fun _ => False) w wr → DM wr rb N T bs lv := fun wr hc => D.quiet hc
  replace hold := hid hold
  have hp' := hid hp
  have hr' := hid hr
  have D' := hid D
  have hKp' := hid hKp
  have hrm' := hid hrm
  clear D hp hr hrv hwf hKp hrm
  have hmk1 : ∀ W : World, Sem.run Try.prog (Instr.makeMap 69 none) W = .ok (.map (some W.heap.size)) (W.alloc (.map #[] 0)) := fun W => by kernel_rfl
  have hmk2 : ∀ W : World, Sem.run Try.prog (Instr.makeMap 70 none) W = .ok (.map (some W.heap.size)) (W.alloc (.map #[] 0)) := fun W => by kernel_rfl
  go_enter Try.func14, Try.ntmps14
  go_wp2_with (go_at_call 26; refine HRe.mono ?_; clear HRe; rintro e w1 ⟨rfl, hin1, hc1⟩; replace hin1 := hid hin1; replace hc1 := hid hc1)
  have hS0 : C1 w (w1.alloc (.map #[] 0)) w1.heap.size T m bs 0 (.slice none 0 0) := ⟨hc1.out.al _, blk_alloc hin1.out, ⟨#[], 0, World.alloc_heap_new w1 _, rfl⟩, ⟨rfl, .inl ⟨rfl, rfl⟩⟩, (by simp [Value.ownBlock]), (by simp [Value.ownBlock]), fun k hk => (by simp [Value.ownBlock] at hk)⟩
  have hz1 := hc1.out.size
  have hz2 := (Array.getElem?_eq_some_iff.1 hin1.out).1
  clear hmk1 hin1 hc1
  generalize w1.alloc (.map #[] 0) = w2 at hS0 ⊢
  have hnib : w.heap.size ≠ w1.heap.size := by omega
  generalize w1.heap.size = mB at *
  clear hz2
  go_loopw [7, 8, 9] (fun v7 v8 v9 wr => ∃ i, v9 = .int .i64 (i : Nat) ∧ v7 = .int .i64 (nad m T i : Nat) ∧ i ≤ T.length ∧ C1 w wr mB T m bs i v8) (fun _ _ v9 _ => T.length - (intOf v9).toNat)
  case atStart => exact ⟨0, rfl, by simp [nad, keepL, used], Nat.zero_le _, hS0⟩
  case round =>
    obtain ⟨i, rfl, rfl, hi, hS⟩ := hrel
    have hS' := hid hS
    have D1 := hold.out wr hS.ch
    have h1 : wr.cell? ⟨rb, 1, none⟩ = some (.slice la T.length lcap) := by simp [World.cell?, D1.hd, elv]
    by_cases e : i = T.length
    · subst e
      obtain ⟨va, vcap, evv, hva, -⟩ := row_slice hS.row
      subst evv
      have hf1 : wr.frozen? ⟨rb, 1, none⟩ = false := by unfold World.frozen?; rw [D1.hd]; rfl
      have hc2 : Ch (DOwn rb T bs lv) w (wr.setCell ⟨rb, 1, none⟩ (.slice va (upTo m T.length).length vcap)) := (hS.ch.mono (fun _ h => h.elim)).set (a := ⟨rb, 1, none⟩) (.inl rfl) _
      have hrbl : rb < w.heap.size := D'.out.lt (.inl rfl)
      have hC2 : C2 (DOwn rb T bs lv) w (wr.setCell ⟨rb, 1, none⟩ (.slice va (upTo m T.length).length vcap)) rb N mB T m bs (.slice va (upTo m T.length).length vcap) 0 0 := by
        refine ⟨hc2, ?_, hS.mp.keep (Below.heap_setCell _ _ _ _ (by show mB ≠ rb; omega)), ownsRow_keep hS.row (fun k hk => Below.heap_setCell _ _ _ _ (by have := hS.new k hk; show k ≠ rb; omega)), fun x hx hm => ?_, hS.new, hz1⟩
        · have := blk_set (i := 1) (v := .slice va (upTo m T.length).length vcap) D1.hd
          rw [this]
          rfl
        · obtain ⟨t, ht⟩ : ∃ t, T[x]? = some t := ⟨_, List.getElem?_eq_getElem hx⟩
          have h3 := D1.fld x t ht
          rw [Below.heap_setCell _ _ _ _ (D1.nrb x hx), h3, fN_zero, thOf_at ht]
      have hlu : (upTo m T.length).length ≤ T.length := by unfold upTo; exact Nat.le_trans (List.length_filter_le _ _) (by simp)
      have hC2' := hid hC2
      clear D1 hS hc2 hC2 hS'
      go_wp2
      clear h1 hf1
      generalize wr.setCell ⟨rb, 1, none⟩ (.slice va (upTo m T.length).length vcap) = V at hC2' ⊢
      go_loopw [11] (fun v11 wr => ∃ a, v11 = .int .i64 (a : Nat) ∧ a ≤ (upTo m T.length).length ∧ C2 (DOwn rb T bs lv) w wr rb N mB T m bs (.slice va (upTo m T.length).length vcap) a 0) (fun v11 _ => (upTo m T.length).length - (intOf v11).toNat)
      case atStart => exact ⟨0, rfl, Nat.zero_le _, hC2'.out⟩
      case round =>
        obtain ⟨a, rfl, ha, hC⟩ := hrel
        have hC' := hid hC
        by_cases ea : a = (upTo m T.length).length
        · subst ea
          have hrl : rb < w.heap.size := D'.out.lt (.inl rfl)
          have hwz := hC.ch.size
          have hmz := hC.mp.lt
          have hbl : ∀ x, x < T.length → bs x < w.heap.size := fun x hx => D'.out.lt (.inr (.inr ⟨x, hx, rfl⟩))
          have hcn : ∀ x, x < T.length → bs x ≠ cb := fun x hx e => hcb (.inr (.inr ⟨x, hx, e⟩))
          have hcr : cb ≠ rb := fun e => hcb (.inl e)
          have hpb' : PlM wr pb cb := hp'.out.keep (hC.ch.same pb hpl hpo)
          have hr1' : RtsM wr cb r := (hC.ch.same cb hcl hcb).trans hr'.out
          have hC3 : C3 (fun k => DOwn rb T bs lv k ∨ k = cb) w (wr.alloc (.map #[] 0)) rb N mB wr.heap.size pb cb T m bs (.slice va (upTo m T.length).length vcap) r 0 := by
            have hca : Ch (fun _ => False) wr (wr.alloc (.map #[] 0)) := (Ch.refl _ wr).al _
            refine ⟨hC.other hca (fun k hk => .inl hk) (fun _ h => h.elim) (fun h => h) (fun h => h) (fun _ _ h => h) (fun _ _ _ h => h), ?_, hpb'.keep (hca.same pb (by omega) (fun h => h)), ⟨[], ⟨#[], 0, World.alloc_heap_new wr _, rfl⟩, fun b hb => by simp at hb⟩, hwz, by omega, fun e => by have := ownsRow_lt hC.row e; omega⟩
            have e : rH m T r 0 = r := by funext j; simp [rH]
            rw [e]
            exact blk_alloc hr1'
          have hC3' := hid hC3
          clear hC hC3 hpb' hr1'
          go_wp2
          clear hmk2
          generalize hdBB : wr.heap.size = dB at *
          generalize wr.alloc (.map #[] 0) = V4 at hC3' ⊢
          go_loopw [14] (fun v14 wr => ∃ i, v14 = .int .i64 (i : Nat) ∧ i ≤ 6 ∧ C3 (fun k => DOwn rb T bs lv k ∨ k = cb) w wr rb N mB dB pb cb T m bs (.slice va (upTo m T.length).length vcap) r i) (fun v14 _ => 6 - (intOf v14).toNat)
          case atStart => exact ⟨0, rfl, Nat.zero_le _, hC3'.out⟩
          case round =>
            obtain ⟨i, rfl, hi, hC⟩ := hrel
            have hCC := hid hC
            by_cases ei : i = 6
            · subst ei
              clear hC
              go_wp2
              go_ret
              refine ⟨by rw [coll_used]; rfl, ⟨_, _, hCC.out.c2.done D'.out, fun k hk => ?_⟩, ?_, hCC.out.c2.ch⟩
              · rcases hk with hk | hk | ⟨q, hq, rfl⟩
                · exact .inl (.inl hk)
                · exact .inr (hCC.out.c2.new k hk)
                · rw [coll_len] at hq
                  exact .inl (.inr (.inr ⟨_, (nth_of hq).1, rfl⟩))
              · have e : rowR (rH m T r 6) = rowR (fun i => newC m T (r i)) := rowR_ext (fun i hi => by simp [rH, hi])
                have := hCC.out.rt
                unfold RtsM at this ⊢
                rw [this, e]
            · have hi6 : i < 6 := by omega
              have hiI : (i : Int) < 6 := by omega
              have hwi : IntKind.i64.wrap ((i : Int) + 1) = (i : Int) + 1 := IntWalk.i64_in _ (by omega)
              have hpi := hC.pl i hi6
              obtain ⟨c0, c1, cf⟩ := (hC.rt.at hi6).cells
              have er : rH m T r i i = r i := by simp [rH]
              rw [er] at c0 c1
              replace cf := cf (i * 2 + 1)
              obtain ⟨l, hMP, hl⟩ := hC.dm
              have hln' : ∀ b ∈ l, b ≠ (⟨cb, i * 2, none⟩ : Addr) ∧ b.block = (⟨cb, i * 2, none⟩ : Addr).block := fun b hb => by
                obtain ⟨j, hj, rfl⟩ := hl b hb
                refine ⟨fun e => ?_, rfl⟩
                injection e with _ h2
                omega
              have hlk1 := run_lookP hMP hln'
              cases hpt : (r i).ptr with
              | false =>
                rw [hpt] at c0
                have hn : C3 (fun k => DOwn rb T bs lv k ∨ k = cb) w wr rb N mB dB pb cb T m bs (.slice va (upTo m T.length).length vcap) r (i + 1) := by
                  refine ⟨hC.c2, ?_, hC.pl, ⟨l, hMP, fun b hb => by obtain ⟨j, hj, e⟩ := hl b hb; exact ⟨j, by omega, e⟩⟩, hC.dn, hC.dmB, hC.dv⟩
                  have e : rH m T r (i + 1) = rH m T r i := by
                    funext j
                    by_cases e : j = i
                    · subst e; simp [rH, newC, hpt]
                    · have : j < i + 1 ↔ j < i := by omega
                      simp [rH, this]
                  rw [e]
                  exact hC.rt
                clear hC hMP hl hlk1
                go_wp2
                go_roundw
                case rel => exact ⟨i + 1, by simp, by omega, hn⟩
                case measure => simp [intOf]; omega
              | true =>
                rw [hpt] at c0
                obtain ⟨k, t, ht, hn, hmk⟩ := hrm'.out i hi6 hpt
                rw [hn] at c1
                obtain ⟨Y, hY, hMY, hcY⟩ := run_putP hMP hln'
                have hC2Y : C2 (fun k => DOwn rb T bs lv k ∨ k = cb) w Y rb N mB T m bs (.slice va (upTo m T.length).length vcap) (upTo m T.length).length 0 := hC.c2.other hcY (fun _ h => h) (fun q hq => .inr (by have := hC.dn; omega)) (by have := hC.dn; omega) (fun e => hC.dmB e.symm) (fun q hq e => hC.dv (by rw [hq, e])) (fun x hx _ => by have := hC.dn; have := hbl x hx; omega)
                have hpY : PlM Y pb cb := hC.pl.keep (hcY.same pb (by have := hC.c2.ch.size; omega) (by have := hC.dn; omega))
                have hrY : RtsM Y cb (rH m T r i) := (hcY.same cb (by have := hC.c2.ch.size; omega) (by have := hC.dn; omega)).trans hC.rt
                have hlk2 := fun q => run_look (w := Y.drewN q) (hC2Y.mp.keep rfl) (toL_some (m := m) (List.getElem?_eq_some_iff.1 ht).1 hmk)
                have hpYi := hpY i hi6
                obtain ⟨y0, y1, yf⟩ := (hrY.at hi6).cells
                rw [er] at y0 y1
                rw [hpt] at y0
                rw [hn] at y1
                replace yf := yf (i * 2 + 1)
                have KK := hid (And.intro hC2Y (And.intro hpY (And.intro hrY (And.intro hMY (And.intro hcY hl)))))
                clear hC hMP hl hC2Y hpY hrY hMY hcY
                go_wp2
                refine wp_region_split 15 1 (by kernel_rfl) rfl (by kernel_rfl) (by kernel_rfl) (by kernel_rfl) ?_
                simp only [List.take_succ_cons, List.take_zero]
                repeat (gi_big_quiet_step (fail))
                refine wpQuietIn_nil ?_
                intro _ hw'
                obtain ⟨nq, hw''⟩ := hw'
                subst hw''
                refine wpAnyIn_ready (rs := [15]) (by kernel_rfl) (by simp) (AllReadyIn.cons rfl (fun K hK => ?_) AllReadyIn.nil)
                go_simp
                refine hK _ _ ?_
                clear hK K
                refine wpAnyIn_done (by kernel_rfl) ?_ _
                obtain ⟨hC2Y, hpY, hrY, hMY, hcY, hl⟩ := KK.out
                have hdn := hCC.out.dn
                have hcW : Ch (fun q => q = cb) Y ((Y.drewN nq).setCell ⟨cb, i * 2 + 1, none⟩ (.int .i64 (nad m T k : Nat))) := Ch.set (O := fun q => q = cb) (w := Y) (w' := Y.drewN nq) ⟨Nat.le_refl _, fun _ _ _ => rfl, rfl, rfl⟩ (a := ⟨cb, i * 2 + 1, none⟩) rfl _
                have hnew : newC m T (r i) = ⟨true, (nad m T k : Nat)⟩ := by
                  simp only [newC, hpt, if_true, new]
                  rw [idx_is ⟨t, ht, hn⟩]
                have hYz := hC2Y.ch.size
                have hnx : C3 (fun k => DOwn rb T bs lv k ∨ k = cb) w ((Y.drewN nq).setCell ⟨cb, i * 2 + 1, none⟩ (.int .i64 (nad m T k : Nat))) rb N mB dB pb cb T m bs (.slice va (upTo m T.length).length vcap) r (i + 1) := by
                  refine ⟨hC2Y.other hcW (fun _ h => h) (fun q hq => .inl (.inr hq)) (fun e => hcr e.symm) (by have := hC2Y.mnw; omega) (fun q hq e => by have := hC2Y.new q hq; omega) (fun x hx _ => hcn x hx), ?_, hpY.keep (hcW.same pb (by omega) (fun e => hcp e.symm)), ⟨_, hMY.keep (hcW.same dB hMY.lt (by omega)), fun b hb => ?_⟩, hdn, hCC.out.dmB, hCC.out.dv⟩
                  · unfold RtsM
                    rw [blk_set (w := Y.drewN nq) hrY, rowR_set (rH m T r i) (rH m T r (i + 1)) hi6 _ ?_ ?_]
                    · rw [er]
                      simp [rH, hnew, hpt]
                    · intro j hj
                      have : j < i + 1 ↔ j < i := by omega
                      simp [rH, this]
                  · rcases List.mem_append.1 hb with h | h
                    · obtain ⟨j, hj, e⟩ := hl b h
                      exact ⟨j, by omega, e⟩
                    · exact ⟨i, by omega, by simpa using h⟩
                clear KK hC2Y hpY hrY hMY hcY hl hcW hlk2 y0 y1 yf hpYi c0 c1 cf hpi hlk1 hY
                generalize (Y.drewN nq).setCell ⟨cb, i * 2 + 1, none⟩ (.int .i64 (nad m T k : Nat)) = V5 at hnx ⊢
                go_wp2
                go_roundw
                case rel => exact ⟨i + 1, by simp, by omega, hnx⟩
                case measure => simp [intOf]; omega
        · have hal : a < (upTo m T.length).length := by omega
          have haI : (a : Int) < ((upTo m T.length).length : Int) := by omega
          obtain ⟨hxl, hxm, hxr⟩ := nth_of hal
          obtain ⟨x, hx⟩ : ∃ x, nth m T a = x := ⟨_, rfl⟩
          rw [hx] at hxl hxm hxr
          have hxr' := hid hxr
          clear hxr
          obtain ⟨t, ht⟩ : ∃ t, T[x]? = some t := ⟨_, List.getElem?_eq_getElem hxl⟩
          obtain ⟨vg, rfl⟩ : ∃ vg, va = some ⟨vg, 0, none⟩ := hva.resolve_left (by omega)
          have hud := ad_used ht
          have hst : t.size = t.l.length + 1 := rfl
          have hdn : dN m T bs a = ⟨(nad m T x : Nat), t.kind, t.tag, bs x, t.l.length⟩ := by unfold dN; rw [hx, thOf_at ht]
          have hwa : IntKind.i64.wrap ((a : Int) + 1) = (a : Int) + 1 := IntWalk.i64_in _ (by omega)
          have hq3 : ∀ W, C2 (DOwn rb T bs lv) w W rb N mB T m bs (.slice (some ⟨vg, 0, none⟩) (upTo m T.length).length vcap) a 0 ∨ True → True := fun _ _ => trivial
          clear hC hq3
          have hx' := hid hx
          clear hx hdn
          have hdn : Hid (dN m T bs a = ⟨(nad m T x : Nat), t.kind, t.tag, bs x, t.l.length⟩) := hid (by unfold dN; rw [hx'.out, thOf_at ht])
          go_wp2
          go_loopw [12] (fun v12 wr => ∃ b, v12 = .int .i64 (b : Nat) ∧ b ≤ t.l.length ∧ C2 (DOwn rb T bs lv) w wr rb N mB T m bs (.slice (some ⟨vg, 0, none⟩) (upTo m T.length).length vcap) a b) (fun v12 _ => t.l.length - (intOf v12).toNat)
          case atStart => exact ⟨0, rfl, Nat.zero_le _, hC'.out⟩
          case round =>
            obtain ⟨b, rfl, hb, hC⟩ := hrel
            have hCC := hid hC
            have c3 : wr.cell? ⟨vg, a * 4 + 3, none⟩ = some (.slice (some ⟨bs x, 0, none⟩) t.l.length t.l.length) := row_cell hC.row (a * 4 + 3) _ (by have := xsT_at (dN m T bs) hal (k := 3) (by omega); rw [hdn.out] at this; exact this)
            by_cases eb : b = t.l.length
            · subst eb
              have hn : C2 (DOwn rb T bs lv) w wr rb N mB T m bs (.slice (some ⟨vg, 0, none⟩) (upTo m T.length).length vcap) (a + 1) 0 := hC.as (fun y hy hym j hj => fN_next (fun e => by
                have : y = x := rk_inj hy hxl hym hxm (by rw [e, hxr'.out]; rfl)
                subst this
                rwa [thOf_at ht] at hj))
              clear hC
              go_wp2
              go_roundw
              case rel => exact ⟨a + 1, by simp, by omega, hn⟩
              case measure => simp [intOf]; omega
            · have hbl : b < t.l.length := by omega
              have hbI : (b : Int) < (t.l.length : Int) := by omega
              have hwb : IntKind.i64.wrap ((b : Int) + 1) = (b : Int) + 1 := IntWalk.i64_in _ (by omega)
              have hf := hC.fld x hxl hxm
              rw [thOf_at ht] at hf
              have hfb : fN m T a b x b = clOf T x b := by
                have : ¬ (rk m x < a ∨ rk m x = a ∧ b < b) := by have := hxr'.out; unfold rk; omega
                simp only [fN, if_neg this]
              have f0 : wr.cell? ⟨bs x, b * 2, none⟩ = some (.bool (clOf T x b).ptr) := by
                have := rowK_ptr (fN m T a b x) hbl
                rw [hfb] at this
                unfold World.cell?
                rw [hf]
                exact this
              have f1 : wr.cell? ⟨bs x, b * 2 + 1, none⟩ = some (.int .i64 (clOf T x b).n) := by
                have := rowK_num (fN m T a b x) hbl
                rw [hfb] at this
                unfold World.cell?
                rw [hf]
                exact this
              have ff : wr.frozen? ⟨bs x, b * 2 + 1, none⟩ = false := by unfold World.frozen?; rw [hf]; rfl
              cases hpt : (clOf T x b).ptr with
              | false =>
                rw [hpt] at f0
                have hn : C2 (DOwn rb T bs lv) w wr rb N mB T m bs (.slice (some ⟨vg, 0, none⟩) (upTo m T.length).length vcap) a (b + 1) := hC.as (fun y hy hym j hj => by
                  by_cases e : rk m y = a ∧ j = b
                  · have : y = x := rk_inj hy hxl hym hxm (by rw [e.1, hxr'.out]; rfl)
                    subst this
                    rw [e.2, hfb]
                    simp [fN, e.1, newC, hpt]
                  · have : (rk m y < a ∨ rk m y = a ∧ j < b) ↔ (rk m y < a ∨ rk m y = a ∧ j < b + 1) := by omega
                    simp only [fN, this])
                clear hC hf
                go_wp2
                go_roundw
                case rel => exact ⟨b + 1, by simp, by omega, hn⟩
                case measure => simp [intOf]; omega
              | true =>
                rw [hpt] at f0
                obtain ⟨k, u, hu, hn, hmk⟩ := hKp'.out x t b ht hxm hbl hpt
                rw [hn] at f1
                have hlk := fun q => run_look (w := wr.drewN q) (hC.mp.keep rfl) (toL_some (m := m) (List.getElem?_eq_some_iff.1 hu).1 hmk)
                clear hC hf
                go_wp2
                refine wp_region_split 19 1 (by kernel_rfl) rfl (by kernel_rfl) (by kernel_rfl) (by kernel_rfl) ?_
                simp only [List.take_succ_cons, List.take_zero]
                repeat (gi_big_quiet_step (fail))
                refine wpQuietIn_nil ?_
                intro _ hw'
                obtain ⟨nq, hw''⟩ := hw'
                subst hw''
                refine wpAnyIn_ready (rs := [19]) (by kernel_rfl) (by simp) (AllReadyIn.cons rfl (fun K hK => ?_) AllReadyIn.nil)
                go_simp
                refine hK _ _ ?_
                clear hK K
                refine wpAnyIn_done (by kernel_rfl) ?_ _
                have hC := hCC.out
                have hf := hC.fld x hxl hxm
                rw [thOf_at ht] at hf
                have hnew : newC m T (clOf T x b) = ⟨true, (nad m T k : Nat)⟩ := by
                  simp only [newC, hpt, if_true, new]
                  rw [idx_is ⟨u, hu, hn⟩]
                have hrkx : rk m x = a := by unfold rk; exact hxr'.out.symm
                have hcW : Ch (fun q => q = bs x) wr ((wr.drewN nq).setCell ⟨bs x, b * 2 + 1, none⟩ (.int .i64 (nad m T k : Nat))) := Ch.set (O := fun q => q = bs x) (w := wr) (w' := wr.drewN nq) ⟨Nat.le_refl _, fun _ _ _ => rfl, rfl, rfl⟩ (a := ⟨bs x, b * 2 + 1, none⟩) rfl _
                have hnx : C2 (DOwn rb T bs lv) w ((wr.drewN nq).setCell ⟨bs x, b * 2 + 1, none⟩ (.int .i64 (nad m T k : Nat))) rb N mB T m bs (.slice (some ⟨vg, 0, none⟩) (upTo m T.length).length vcap) a (b + 1) := by
                  refine hC.step (x := x) hcW (.inr (.inr ⟨x, hxl, rfl⟩)) (D'.out.lt (.inr (.inr ⟨x, hxl, rfl⟩))) (D'.out.nrb x hxl) (fun y hy _ hne e => hne (D'.out.inj y x hy hxl e)) ?_ ?_
                  · rw [blk_set (w := wr.drewN nq) hf, thOf_at ht, rowK_setn (fN m T a b x) (fN m T a (b + 1) x) hbl _ ?_ ?_]
                    · rw [hfb]
                      simp [fN, hrkx, hnew, hpt]
                    · intro j hj hne
                      have : (rk m x < a ∨ rk m x = a ∧ j < b + 1) ↔ (rk m x < a ∨ rk m x = a ∧ j < b) := by omega
                      simp only [fN, this]
                  · intro y hy hym hne j hj
                    have hry : rk m y ≠ a := fun e => hne (rk_inj hy hxl hym hxm (by rw [e, hrkx]))
                    have : (rk m y < a ∨ rk m y = a ∧ j < b) ↔ (rk m y < a ∨ rk m y = a ∧ j < b + 1) := by omega
                    simp only [fN, this]
                clear hC hf hcW hlk f0 f1 ff c3
                generalize (wr.drewN nq).setCell ⟨bs x, b * 2 + 1, none⟩ (.int .i64 (nad m T k : Nat)) = V3 at hnx ⊢
                go_wp2
                go_roundw
                case rel => exact ⟨b + 1, by simp, by omega, hnx⟩
                case measure => simp [intOf]; omega
    · have hlt : i < T.length := by omega
      have hltI : (i : Int) < (T.length : Int) := by omega
      have hw1 : IntKind.i64.wrap ((i : Int) + 1) = (i : Int) + 1 := IntWalk.i64_in _ (by omega)
      have hic : wr.cell? ⟨w.heap.size, i, none⟩ = some (.bool (m i)) := by
        have := bRow_at m hlt
        unfold World.cell?
        rw [hS.inr]
        exact this
      obtain ⟨t, ht⟩ : ∃ t, T[i]? = some t := ⟨_, List.getElem?_eq_getElem hlt⟩
      have hns := nad_succ (m := m) ht
      cases hm : m i with
      | false =>
        rw [hm] at hic hns
        simp only [Bool.false_eq_true, if_false, Nat.add_zero] at hns
        clear D1 hS
        go_wp2
        refine ⟨⟨i + 1, by simp, by rw [hns], by omega, hS'.out.skip hm⟩, ?_⟩
        simp only [intOf]
        omega
      | true =>
        rw [hm] at hic hns
        simp only [if_true] at hns
        obtain ⟨lg, rfl⟩ : ∃ lg, la = some ⟨lg, 0, none⟩ := hla.resolve_left (by omega)
        subst elv
        obtain ⟨q0, q1, q2, q3⟩ := D1.thing ht
        have hud := ad_used ht
        have hst : t.size = t.l.length + 1 := rfl
        have hna := nad_le m T i (by omega)
        obtain ⟨X, hX⟩ : ∃ X, wr.alloc (.cells #[.int .i64 (ad T i : Nat), .int .i64 t.kind, .int .i64 t.tag, .slice (some ⟨bs i, 0, none⟩) t.l.length t.l.length] 46) = X := ⟨_, rfl⟩
        have hcX : Ch (fun _ => False) wr X := by rw [← hX]; exact (Ch.refl _ wr).al _
        have hBX : X.heap[wr.heap.size]? = some (.cells #[.int .i64 (ad T i : Nat), .int .i64 t.kind, .int .i64 t.tag, .slice (some ⟨bs i, 0, none⟩) t.l.length t.l.length] 46 (0, 0)) := by rw [← hX]; exact World.alloc_heap_new wr _
        have hSX := hS.quiet hcX
        have x0 : X.cell? ⟨wr.heap.size, 0, none⟩ = some (.int .i64 (ad T i : Nat)) := by unfold World.cell?; rw [hBX]; rfl
        obtain ⟨Y, hY, hMY, hcY⟩ := run_put hSX.mp (v := (nad m T i : Nat)) (toL_none (m := m) hlt)
        have hzs := hS.ch.size
        have hmbl := hS.mp.lt
        have hBY : Y.heap[wr.heap.size]? = some (.cells #[.int .i64 (ad T i : Nat), .int .i64 t.kind, .int .i64 t.tag, .slice (some ⟨bs i, 0, none⟩) t.l.length t.l.length] 46 (0, 0)) := (hcY.same _ (Array.getElem?_eq_some_iff.1 hBX).1 (by omega)).trans hBX
        have y0 : Y.cell? ⟨wr.heap.size, 0, none⟩ = some (.int .i64 (ad T i : Nat)) := by unfold World.cell?; rw [hBY]; rfl
        have yf : Y.frozen? ⟨wr.heap.size, 0, none⟩ = false := by unfold World.frozen?; rw [hBY]; rfl
        have hBZ := blk_set (i := 0) (v := .int .i64 (nad m T i : Nat)) hBY
        have hcZ : Ch (fun k => k = wr.heap.size) Y (Y.setCell ⟨wr.heap.size, 0, none⟩ (.int .i64 (nad m T i : Nat))) := Ch.setCell _ _ _ rfl
        obtain ⟨Z, hZ⟩ : ∃ Z, Y.setCell ⟨wr.heap.size, 0, none⟩ (.int .i64 (nad m T i : Nat)) = Z := ⟨_, rfl⟩
        rw [hZ] at hBZ hcZ
        have z0 : Z.cell? ⟨wr.heap.size, 0, none⟩ = some (.int .i64 (nad m T i : Nat)) := by unfold World.cell?; rw [hBZ]; rfl
        have z1 : Z.cell? ⟨wr.heap.size, 1, none⟩ = some (.int .i64 t.kind) := by unfold World.cell?; rw [hBZ]; rfl
        have z2 : Z.cell? ⟨wr.heap.size, 2, none⟩ = some (.int .i64 t.tag) := by unfold World.cell?; rw [hBZ]; rfl
        have z3 : Z.cell? ⟨wr.heap.size, 3, none⟩ = some (.slice (some ⟨bs i, 0, none⟩) t.l.length t.l.length) := by unfold World.cell?; rw [hBZ]; rfl
        have hw2 : IntKind.i64.wrap (((nad m T i : Nat) : Int) + 1) = ((nad m T i : Nat) : Int) + 1 := IntWalk.i64_in _ (by omega)
        have hw3 : IntKind.i64.wrap (((nad m T i : Nat) : Int) + 1 + (t.l.length : Int)) = ((nad m T (i + 1) : Nat) : Int) := by rw [IntWalk.i64_in _ (by omega), hns]; omega
        obtain ⟨va, vcap, evv, hva, -⟩ := row_slice hS.row
        subst evv
        have hrZ : Z.ownsRow 0 46 4 (.slice va (upTo m i).length vcap) (upTo m i).length (xsT (dN m T bs) (upTo m i).length) :=
          ownsRow_keep hSX.row (fun k hk => by
            have hkl := ownsRow_lt hSX.row hk
            have hkl2 := ownsRow_lt hS.row hk
            rw [hcZ.same k (by have := hcY.size; omega) (by omega), hcY.same k hkl (fun e => hSX.nmp (by rw [hk, e]))])
        have hA : ∀ o, (Z.alloc o).ownsRow 0 46 4 (.slice va (upTo m i).length vcap) (upTo m i).length (xsT (dN m T bs) (upTo m i).length) := fun o => ownsRow_keep hrZ (fun k hk => Below.heap_alloc _ _ _ (ownsRow_lt hrZ hk))
        have hlu : (upTo m i).length ≤ i := by unfold upTo; exact Nat.le_trans (List.length_filter_le _ _) (by simp)
        have KK := hid (And.intro hcX (And.intro hMY (And.intro hcY (And.intro hcZ (And.intro hrZ hSX)))))
        have hAc := new_many Z #[.int .i64 (nad m T i : Nat), .int .i64 t.kind, .int .i64 t.tag, .slice (some ⟨bs i, 0, none⟩) t.l.length t.l.length] 46 _ rfl
        have hA1 := hA (.cells #[.int .i64 (nad m T i : Nat), .int .i64 t.kind, .int .i64 t.tag, .slice (some ⟨bs i, 0, none⟩) t.l.length t.l.length] 46)
        clear D1 hS hcX hBX hSX hMY hcY hBY hBZ hcZ hrZ hA
        go_wp2_with (at_builtin; go_must (refine list_append rfl (.tmp 52) (.tmp 54) 28 rfl 46 (.agg #[.int .i64 0, .int .i64 0, .int .i64 0, .slice none 0 0]) 4 48 Try.underlying28 Try.infoTh rfl (by decide) (.slice va (upTo m i).length vcap) (upTo m i).length (xsT (dN m T bs) (upTo m i).length) rfl hA1 ⟨Z.heap.size, 0, none⟩ 1 1 _ rfl rfl hAc (by simp [Value.oneCell']) (by unfold maxLen; omega) (by omega) ?_); intro v' w9 hrow9 hgrow9 hblk9)
        have eu : upTo m (i + 1) = upTo m i ++ [i] := by rw [upTo_succ, hm]; rfl
        have hdn : dN m T bs (upTo m i).length = ⟨(nad m T i : Nat), t.kind, t.tag, bs i, t.l.length⟩ := by
          unfold dN
          rw [nth_at hlt hm, thOf_at ht]
        have hNew : C1 w w9 mB T m bs (i + 1) v' := by
          obtain ⟨hcX, hMY, hcY, hcZ, hrZ, hSX⟩ := KK.out
          have hsX := hcX.size
          have hsY := hcY.size
          have hsZ := hcZ.size
          have hc9 : Ch (fun j => (Value.slice va (upTo m i).length vcap).ownBlock = some j) Z w9 := app_ch ((Ch.refl _ Z).al _) hgrow9
          have hch9 : Ch (fun _ => False) w w9 := ((hSX.ch.trans hcY (fun k hk => .inr (by omega))).trans hcZ (fun k hk => .inr (by omega))).trans hc9 (fun k hk => .inr (hSX.new k hk))
          have hil := (Array.getElem?_eq_some_iff.1 hSX.inr).1
          have hmb := hSX.mp.lt
          have hwl : wr.heap.size ≠ w.heap.size := fun e => by have := (Array.getElem?_eq_some_iff.1 hS'.out.inr).1; omega
          have hib : w9.heap[w.heap.size]? = X.heap[w.heap.size]? := by
            rw [hc9.same _ (by omega) hSX.nin, hcZ.same _ (by omega) (Ne.symm hwl), hcY.same _ hil hnib]
          refine ⟨hch9, hib.trans hSX.inr, ?_, ?_, ?_, ?_, ?_⟩
          · unfold toL
            rw [eu, List.map_append]
            exact hMY.keep (by rw [hc9.same _ (by omega) hSX.nmp, hcZ.same _ (by omega) (by omega)])
          · rw [eu, List.length_append]
            rw [show [i].length = 1 from rfl, xsT_snoc, hdn]
            exact hrow9
          · rcases hblk9 with e9 | e9
            · rw [e9]; exact hSX.nin
            · rw [e9]; intro h2; have := Option.some.inj h2; simp at this; omega
          · rcases hblk9 with e9 | e9
            · rw [e9]; exact hSX.nmp
            · rw [e9]; intro h2; have := Option.some.inj h2; simp at this; omega
          · intro k hk
            rcases hblk9 with e9 | e9
            · exact hSX.new k (e9.symm.trans hk)
            · rw [e9] at hk; have := Option.some.inj hk; simp at this; omega
        refine ⟨⟨i + 1, by simp, congrArg (Value.int .i64) (by rw [hns]; omega), by omega, hNew⟩, ?_⟩
        simp only [intOf]
        omega
end Go.Proofs.Ytidgppghakmkaaa
