/-
  What the library sorts: names, shares.
-/
import Derived.Test.YtcogpcalghfghaaMUd
import Derived.Test.YtcogpcalghfghaaShelf
import Derived.Sort.OwnSorted
import Derived.Sort.AssemblyPlain
set_option linter.unusedVariables false
set_option linter.unusedSimpArgs false
namespace Go.Proofs.Ytcogpcalghfghaa
open Go.RowKit Go.Shelf Go.Sort
open Un (Bag)

theorem cmp_ok : CmpOK := by
  intro a b w
  have h := Try.strings_Compare ⟨a.toArray⟩ ⟨b.toArray⟩ w
  simpa using h
theorem sort_ok : SortOK := by
  intro w v l hown hl
  rcases id hown.2 with ⟨rfl, hn⟩ | ⟨g, cap, cur, rfl, hbase, hb, h1, h2, h3, h4⟩
  · have hl0 : l = [] := List.length_eq_zero_iff.1 hn
    subst hl0
    refine (Try.slices_Sort_string_none none 0 w).mono ?_
    rintro e w' ⟨rfl, rfl⟩
    exact ⟨rfl, by simpa using hown, Ch.refl _ _⟩
  · have hH : Holds encStr w g 0 l.toArray := holds_of_block hb (by simpa [strs] using h4)
    refine (Try.slices_Sort_string g 0 cap l w hH (Array.getElem?_eq_some_iff.1 hb).1 (by omega)).mono ?_
    rintro e w' ⟨rfl, n, os, rfl⟩
    refine ⟨rfl, ?_, ?_⟩
    · exact ownsRow_sorted (ss := l) (by simp) hbase hb h1 h2 h3
    · exact Ch.grown (grownBy_sorted _) (fun k hk => by cases hk; rfl)

abbrev encS (s : Un.Nm × Nat) : List Value := [str s.1, .int .i64 (s.2 : Nat)]
abbrev cfS (x y : Un.Nm × Nat) : Int := Lib.compareBytes x.1 y.1
theorem lt_cf (x y : Un.Nm × Nat) : ltOf cfS x y = decide (x.1 < y.1) := by
  unfold ltOf cfS
  have := cmp_lt x.1 y.1
  by_cases h : x.1 < y.1
  · simp [h, this.2 h]
  · have h2 : ¬ Lib.compareBytes x.1 y.1 < 0 := fun h3 => h (this.1 h3)
    simp [h, h2]
theorem swoS : SWO (ltOf cfS) where
  irrefl x := by rw [lt_cf]; simp
  trans x y z h1 h2 := by
    rw [lt_cf] at h1 h2 ⊢
    simp only [decide_eq_true_eq] at h1 h2 ⊢
    exact List.lt_trans h1 h2
  ntrans x y z h1 h2 := by
    rw [lt_cf] at h1 h2 ⊢
    simp only [decide_eq_false_iff_not] at h1 h2 ⊢
    exact List.not_lt.2 (List.le_trans (List.not_lt.1 h2) (List.not_lt.1 h1))
theorem flatS (b : Bag) : (flatK encS 2 b.toArray).toList = shC b := by
  have hsz : (flatK encS 2 b.toArray).size = b.length * 2 := by simp
  refine List.ext_getElem? (fun t => ?_)
  by_cases ht : t < b.length * 2
  · have hi : t / 2 < b.length := by omega
    have hb : b[t / 2]? = some b[t / 2] := by simp
    obtain ⟨e1, e2⟩ := shC_at hb
    have hg := get_flatK encS 2 b.toArray t (by simpa using ht)
    have hl : (flatK encS 2 b.toArray).toList[t]? = some ((flatK encS 2 b.toArray)[t]!) := by
      rw [Array.getElem?_toList, Array.getElem?_eq_getElem (by omega), getElem!_pos _ t (by omega)]
    rw [hl, hg]
    have hbi : b.toArray[t / 2]! = b[t / 2] := by rw [getElem!_pos _ _ (by simpa using hi)]; simp
    rw [hbi]
    rcases Nat.mod_two_eq_zero_or_one t with h | h
    · rw [show t / 2 * 2 = t by omega] at e1
      rw [h, e1]
      rfl
    · rw [show t / 2 * 2 + 1 = t by omega] at e2
      rw [h, e2]
      rfl
  · rw [List.getElem?_eq_none (by simp; omega), List.getElem?_eq_none (by rw [shC_len]; omega)]
theorem holdsS {w : World} {g n c : Nat} {b : Bag} (h : w.ownsRow 0 99 2 (.slice (some ⟨g, 0, none⟩) n c) n (shC b)) : HoldsK encS 2 w g 0 b.toArray := by
  intro j hj
  have hl : (flatK encS 2 b.toArray).toList[j]? = some ((flatK encS 2 b.toArray)[j]!) := by
    rw [Array.getElem?_toList, Array.getElem?_eq_getElem hj, getElem!_pos _ j hj]
  rw [flatS] at hl
  rw [Nat.zero_add]
  exact ⟨row_cell h j _ hl, own_frozen h j⟩
set_option maxHeartbeats 1000000 in
theorem join1_any (w : World) (x y : Un.Nm × Nat) :
    Calls Try.prog 50 #[.agg (encS x).toArray, .agg (encS y).toArray] w fun e w' => e = .returned (.int .i64 (cfS x y)) ∧ w' = (w.alloc (.cells #[str x.1, .int .i64 (x.2 : Nat)] 99)).alloc (.cells #[str y.1, .int .i64 (y.2 : Nat)] 99) := by
  have HC := fun w => cmp_ok x.1 y.1 w
  go_enter Try.func50, Try.ntmps50
  go_wp2_with (go_at_call 51; refine (HC _).mono ?_; clear HC; rintro e w1 ⟨rfl, rfl⟩)
  go_ret
  exact ⟨rfl, rfl⟩
theorem cmpS (w : World) (g n : Nat) : CmpLays Try.prog 50 #[] encS 2 cfS g 0 n w := by
  intro m os dk _ x y
  refine (join1_any _ x y).mono ?_
  rintro e w' ⟨rfl, rfl⟩
  refine ⟨rfl, 0, #[.cells #[str x.1, .int .i64 (x.2 : Nat)] 99 (0, 0), .cells #[str y.1, .int .i64 (y.2 : Nat)] 99 (0, 0)], ?_⟩
  rw [alloc_eq_grow, alloc_eq_grow, grow_grow]
  rfl
theorem heap_sortS {w : World} {g n : Nat} {os : Array Obj} {cur : Array Value} {e : TypeId} {fr : Nat × Nat} (d : Array Value) (hb : w.heap[g]? = some (.cells cur e fr)) :
    (grow (putRow id (Sort.ahead w n) g 0 d) os).heap[g]? = some (.cells (putCells id 0 d cur) e fr) := by
  have hg : g < w.heap.size := (Array.getElem?_eq_some_iff.1 hb).1
  rw [heap_grow_old _ _ (by simpa using hg)]
  simp [putRow, mapBlock, Sort.ahead, Array.getElem?_modify, hb, onCells]
theorem grown_sortS {w : World} {g n : Nat} {os : Array Obj} (d : Array Value) : w.grownBy (grow (putRow id (Sort.ahead w n) g 0 d) os) (some g) := by
  refine ⟨rfl, rfl, rfl, by simp, fun k hk hne => ?_⟩
  rw [heap_grow_old _ _ (by simpa using hk)]
  have : g ≠ k := fun e => hne (by rw [e])
  simp [putRow, mapBlock, Sort.ahead, Array.getElem?_modify, this]
theorem take_putS (cur d : Array Value) (h : d.size ≤ cur.size) : (putCells id 0 d cur).toList.take d.size = d.toList := by
  apply List.ext_getElem?
  intro j
  by_cases hj : j < d.size
  · rw [List.getElem?_take_of_lt hj, Array.getElem?_toList]
    simp [putCells, hj, show j < cur.size by omega]
  · rw [List.getElem?_take_eq_none (by omega), List.getElem?_eq_none (by simp; omega)]
set_option maxHeartbeats 2000000 in
theorem sortF_any (w : World) (v : Value) (b : Bag) (hown : w.ownsRow 0 99 2 v b.length (shC b)) (hn : b.length < 1000000000) :
    Calls Try.prog 49 #[v, .func (.func 50) #[] #[]] w fun e w' => e = .returned (.tuple #[]) ∧ ∃ b' : Bag, b'.Perm b ∧ b'.Pairwise (fun s t => ¬ t.1 < s.1) ∧ w'.ownsRow 0 99 2 v b.length (shC b') ∧ Ch (fun k => v.ownBlock = some k) w w' := by
  have wr : IntKind.u64.wrap (b.length : Int) = b.length := by simp [IntKind.wrap, IntKind.bits, IntKind.signed]; omega
  have hl : Calls Try.prog 57 #[.int .u64 (b.length : Int)] w fun e w' => e = .returned (.int .i64 (Lib.bitLen b.length : Nat)) ∧ w' = w := by
    have h := Try.bits_Len (b.length : Int) w (by omega) (by omega)
    rwa [Int.toNat_natCast] at h
  have hlim : Lib.bitLen b.length < 4611686018427387904 := Nat.lt_of_le_of_lt (Lib.bitLen_le b.length 62 (by omega) (by omega)) (by omega)
  rcases id hown.2 with ⟨rfl, hn0⟩ | ⟨g, cap, cur, rfl, hbase, hb, h1, h2, h3, h4⟩
  · have hl0 : b = [] := List.length_eq_zero_iff.1 hn0
    subst hl0
    have hp := fun lim => AnyF.pdqsortCmpFunc_none (P := Try.prog) Try.laysSlF014_f77 none 0 lim (.func (.func 50) #[] #[]) w
    replace hown := hid hown
    go_enter Try.func49, Try.ntmps49
    go_wp2_with (first
      | (go_at_call 57; refine hl.mono ?_; clear hl; rintro e w1 ⟨rfl, rfl⟩)
      | (go_at_call 60; refine (hp _).mono ?_; clear hp; rintro e w1 ⟨rfl, rfl⟩))
    go_end0
    exact ⟨rfl, [], List.Perm.refl _, List.Pairwise.nil, hown.out, Ch.refl _ _⟩
  · have hp := AnyQ.pdqsortCmpFunc_all (P := Try.prog) Try.laysSlF014_f77 2 Try.isAgg99 Try.sizeOf99 encS cfS 50 #[] swoS g 0 cap b.toArray w (enters_of Try.func50 (by kernel_rfl) rfl) (cmpS w g _) ⟨fun x => rfl, fun x v hv => by simp at hv; rcases hv with rfl | rfl <;> rfl, holdsS hown, (Array.getElem?_eq_some_iff.1 hb).1⟩ (b.length + 1) 0 b.length (Lib.bitLen b.length) b.toArray w (by omega) rfl (SWK.start (holdsS hown)) (Nat.zero_le _) (by simp) (by simp; omega) hlim (Or.inl rfl)
    have hps := pdq_sorts (ltOf cfS) swoS b.toArray 0 b.length (Lib.bitLen b.length) true true (Nat.zero_le _) (by simp) (Or.inl rfl)
    have hbb := hid hb
    have hmm := hid (And.intro h1 (And.intro h2 h3))
    replace hps := hid hps
    replace hown := hid hown
    clear hb h1 h2 h3 h4
    go_enter Try.func49, Try.ntmps49
    go_wp2_with (first
      | (go_at_call 57; refine hl.mono ?_; clear hl; rintro e w1 ⟨rfl, rfl⟩)
      | (go_at_call 60; refine hp.mono ?_; clear hp; rintro e w1 ⟨rfl, n, os, rfl⟩))
    go_end0
    obtain ⟨⟨p1, p2, p3⟩, q1⟩ := hps.out
    generalize pdq (ltOf cfS) b.toArray 0 b.length (Lib.bitLen b.length) true true = d' at *
    have hd : d'.size = b.length := by simpa using p1
    have hdl : d'.toList.length = b.length := by simpa using hd
    have hfl : flatK encS 2 d' = flatK encS 2 d'.toList.toArray := by simp
    obtain ⟨m1, m2, m3⟩ := hmm.out
    refine ⟨rfl, d'.toList, ?_, ?_, ?_, ?_⟩
    · have e1 : (d'.extract 0 b.length).toList = d'.toList := by rw [← hd]; simp
      have e2 : (b.toArray.extract 0 b.length).toList = b := by simp
      rw [e1, e2] at p3
      exact p3
    · rw [List.pairwise_iff_getElem]
      intro i j hi hj hij
      have := q1 i j (Nat.zero_le _) hij (by omega)
      rw [lt_cf] at this
      rw [getElem!_pos d' j (by omega), getElem!_pos d' i (by omega)] at this
      simpa using this
    · have hz : (flatK encS 2 d').size = b.length * 2 := by simp [hd]
      refine ⟨by rw [shC_len, hdl], .inr ⟨g, cap, _, rfl, hbase, heap_sortS _ hbb.out, m1, m2, by simp [putCells, m3], ?_⟩⟩
      rw [← hz, take_putS _ _ (by rw [hz, m3]; omega), hfl, flatS]
    · exact Ch.grown (grown_sortS _) (fun k hk => by cases hk; rfl)
end Go.Proofs.Ytcogpcalghfghaa
