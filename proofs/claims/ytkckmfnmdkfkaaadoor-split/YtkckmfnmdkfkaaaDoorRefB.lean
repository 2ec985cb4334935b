/-
  What the document's number answers, for every row of digits; its lists of words and signs; whether a name is a word.
-/
import Derived.Test.YtkckmfnmdkfkaaaDoorRefA
namespace Go.Proofs.YtkckmfnmdkfkaaaDoor
open Go.RowKit

theorem numVal_snoc (l : List UInt8) (c : UInt8) : Lx.numVal (l ++ [c]) = 10 * Lx.numVal l + (c.toNat - 48) := by simp [Lx.numVal]
theorem take_snoc (s : ByteArray) (k : Nat) (h : k < s.size) : s.data.toList.take (k + 1) = s.data.toList.take k ++ [s[k]] := by
  rw [List.take_succ_eq_append_getElem (by simpa using h)]; rfl
theorem numVal_mono (l m : List UInt8) : Lx.numVal l ≤ Lx.numVal (l ++ m) := by
  induction m generalizing l with
  | nil => simp
  | cons c m ih =>
    have h1 := numVal_snoc l c
    have h2 := ih (l ++ [c])
    rw [List.append_assoc, List.singleton_append] at h2
    omega
theorem numVal_take (l : List UInt8) (k : Nat) : Lx.numVal (l.take k) ≤ Lx.numVal l := by
  have := numVal_mono (l.take k) (l.drop k)
  rwa [List.take_append_drop] at this

theorem head_eq (s : ByteArray) (h : 0 < s.size) : s.data.toList.head? = some s[0] := by
  have := drop_cons s 0 h
  rw [List.drop_zero] at this
  rw [this]; rfl
theorem size_len (s : ByteArray) : s.data.toList.length = s.size := by simp
theorem u8_eq {c : UInt8} {n : Nat} (hn : n < 256) (h : c.toNat = n) : c = UInt8.ofNat n := by
  apply UInt8.toNat_inj.1
  rw [h, UInt8.toNat_ofNat']
  omega
theorem okNum_bad (s : ByteArray) (h : 1 < s.size) (h48 : (s[0]).toNat = 48) : Lx.okNum s.data.toList = false := by
  unfold Lx.okNum
  rw [head_eq s (by omega), size_len, u8_eq (by omega) h48]
  simp [h]
theorem okNum_big (l : List UInt8) (h : 9223372036854775807 < Lx.numVal l) : Lx.okNum l = false := by
  unfold Lx.okNum
  rw [decide_eq_false (by omega : ¬ Lx.numVal l ≤ 9223372036854775807), Bool.and_false]
theorem okNum_good (s : ByteArray) (h0 : 0 < s.size) (h : 1 < s.size → (s[0]).toNat ≠ 48) (hv : Lx.numVal s.data.toList ≤ 9223372036854775807) : Lx.okNum s.data.toList = true := by
  unfold Lx.okNum
  rw [decide_eq_true hv, head_eq s h0, size_len, Bool.and_true]
  by_cases h1 : 1 < s.size
  · have h2 : (s[0] == 48) = false := by
      rw [beq_eq_false_iff_ne]
      intro e
      apply h h1
      rw [e]; rfl
    simp [h2]
  · simp [h1]

def RNum (s : ByteArray) (w : World) (e : Ending) (w' : World) : Prop :=
  ∃ (n : Int) (ok : Bool), e = .returned (.tuple #[.int .i64 n, .bool ok]) ∧ ok = Lx.okNum s.data.toList ∧ (ok = true → n = Lx.numVal s.data.toList) ∧ w' = w

set_option maxHeartbeats 1000000 in
theorem rnumber_any (s : ByteArray) (w : World) (hs : s.size ≤ 3000) (h0 : 0 < s.size) (hd : ∀ k (h : k < s.size), 48 ≤ (s[k]).toNat ∧ (s[k]).toNat ≤ 57) :
    Calls Tryd.prog 24 #[.string s] w fun e w' => RNum s w e w' := by
  have main : ∀ hz : (1 < s.size → (s[0]).toNat ≠ 48), (s.size ≤ 1 ∨ ((((s[0]).toNat : Int) == 48) = false)) → _ := fun hz hz2 => (show Calls Tryd.prog 24 #[.string s] w fun e w' => RNum s w e w' by
    have HZ := hid hz
    clear hz
    rcases hz2 with hz2 | hz2
    all_goals
      go_enter Tryd.func24, Tryd.ntmps24
      go_wp2
      try (rename_i hq; exfalso; omega)
    all_goals
      go_loop [4, 5] (fun n i => ∃ (k : Nat) (a : Int), i = .int .i64 k ∧ n = .int .i64 a ∧ k ≤ s.size ∧ 0 ≤ a ∧ a ≤ 9223372036854775807 ∧ Hid (a = Lx.numVal (s.data.toList.take k))) (fun _ i => s.size - (intOf i).toNat)
      case atStart => exact ⟨0, 0, rfl, rfl, by omega, by omega, by omega, hid rfl⟩
      case round =>
        obtain ⟨k, a, rfl, rfl, hk, ha0, ha1, H⟩ := hrel
        by_cases hlt : k < s.size
        · have hdk := hd k hlt
          have hd1 : (48 : Int) ≤ (s[k]).toNat := by omega
          have hd2 : ((s[k]).toNat : Int) ≤ 57 := by omega
          have HN := hid (numVal_snoc (s.data.toList.take k) s[k])
          have HT := hid (take_snoc s k hlt)
          have HM := hid (numVal_take s.data.toList (k + 1))
          clear hdk hd
          go_wp2
          · go_ret2
            have hb : Lx.okNum s.data.toList = false := by
              apply okNum_big
              have h1 := H.out
              have h2 := HN.out
              have h3 := HM.out
              rw [HT.out] at h3
              omega
            exact ⟨0, false, rfl, hb.symm, (fun h => by cases h), rfl⟩
          · go_round
            case rel =>
              refine ⟨k + 1, _, by go_num, rfl, by omega, by omega, by omega, hid ?_⟩
              have h1 := H.out
              have h2 := HN.out
              rw [HT.out]
              omega
            case measure => simp [intOf]; omega
        · go_wp2
          go_ret2
          have hk2 : k = s.size := by omega
          have h1 := H.out
          rw [List.take_of_length_le (by simp; omega)] at h1
          exact ⟨a, true, rfl, (okNum_good s h0 HZ.out (by omega)).symm, fun _ => h1, rfl⟩)
  by_cases h1 : 1 < s.size
  · by_cases h48 : (s[0]).toNat = 48
    · have HB := hid (okNum_bad s h1 h48)
      have h48' : (((s[0]).toNat : Int) == 48) = true := by simp [h48]
      clear h48 main
      go_enter Tryd.func24, Tryd.ntmps24
      go_wp2
      go_ret2
      exact ⟨0, false, rfl, HB.out.symm, (fun h => by cases h), rfl⟩
    · exact main (fun _ => h48) (.inr (by simp; omega))
  · exact main (fun h => absurd h h1) (.inl (by omega))

def strVals (L : List (List UInt8)) : List Value := L.map fun l => .string ⟨l.toArray⟩
/-- A row of texts that lies in a block. -/
def StrRow (w : World) (b : Nat) (L : List (List UInt8)) : Prop := ∀ k, k < L.length → w.cell? ⟨b, k, none⟩ = some (.string ⟨(L.getD k []).toArray⟩)
def signList : List (List UInt8) := [[58, 58], [61, 61], [61, 62], [45, 62], [40], [41], [91], [93], [123], [125], [44], [59], [58], [61], [45], [43], [42], [60], [124], [126]]

theorem strRow_new (w : World) (L : List (List UInt8)) (e : TypeId) : StrRow (w.alloc (.cells (strVals L).toArray e)) w.heap.size L := by
  intro k hk
  rw [cell_of_row _ w.heap.size k (strVals L).toArray e (0, 0) (heap_alloc_new w _)]
  simp [strVals, hk]

set_option maxHeartbeats 1000000 in
theorem words_any (w : World) :
    Calls Tryd.prog 34 #[] w fun e w' => e = .returned (.slice (some ⟨w.heap.size, 0, none⟩) 28 28) ∧ StrRow w' w.heap.size Lx.wordList ∧ Below w.heap.size w w' := by
  have H := hid (strRow_new w Lx.wordList 9)
  go_enter Tryd.func34, Tryd.ntmps34
  go_wp2
  go_ret
  exact ⟨rfl, H.out, (Below.refl _ _).alloc (Nat.le_refl _) _⟩

set_option maxHeartbeats 1000000 in
theorem signs_any (w : World) :
    Calls Tryd.prog 27 #[] w fun e w' => e = .returned (.slice (some ⟨w.heap.size, 0, none⟩) 20 20) ∧ StrRow w' w.heap.size signList ∧ Below w.heap.size w w' := by
  have H := hid (strRow_new w signList 9)
  go_enter Tryd.func27, Tryd.ntmps27
  go_wp2
  go_ret
  exact ⟨rfl, H.out, (Below.refl _ _).alloc (Nat.le_refl _) _⟩

theorem isWd_iff (l : List UInt8) : Lx.isWd l = true ↔ ∃ k, k < 28 ∧ Lx.wordList.getD k [] = l := by
  unfold Lx.isWd
  rw [List.contains_iff_mem, List.mem_iff_getElem]
  constructor
  · rintro ⟨i, hi, he⟩
    exact ⟨i, hi, by rw [List.getD_eq_getElem?_getD, List.getElem?_eq_getElem hi]; exact he⟩
  · rintro ⟨i, hi, he⟩
    have hi' : i < Lx.wordList.length := hi
    exact ⟨i, hi', by rw [List.getD_eq_getElem?_getD, List.getElem?_eq_getElem hi'] at he; exact he⟩

theorem toList_data (s : ByteArray) : s.data.toList = s.toList := (ByteArray.toList_eq s).symm

set_option maxHeartbeats 1000000 in
theorem isWord_any (s : ByteArray) (w : World) :
    Calls Tryd.prog 26 #[.string s] w fun e w' => e = .returned (.bool (Lx.isWd s.data.toList)) ∧ Below w.heap.size w w' := by
  go_enter Tryd.func26, Tryd.ntmps26
  go_wp2_with (go_at_call 34; refine (words_any _).mono ?_; rintro e w1 ⟨rfl, hrow, hb⟩)
  go_loop [4] (fun t => ∃ k : Nat, t = .int .i64 k ∧ k ≤ 28 ∧ Hid (∀ j, j < k → Lx.wordList.getD j [] ≠ s.data.toList)) (fun t => 28 - (intOf t).toNat)
  case atStart => exact ⟨0, rfl, by omega, fun j hj => absurd hj (by omega)⟩
  case round =>
    obtain ⟨k, rfl, hk, H⟩ := hrel
    by_cases hlt : k < 28
    · have hc := hrow k hlt
      have HI := hid (isWd_iff s.data.toList)
      obtain ⟨x, hx⟩ : ∃ x, x = Lx.wordList.getD k [] := ⟨_, rfl⟩
      rw [← hx] at hc
      have HX := hid hx
      clear hx hrow
      go_wp2
      · have hq : (x == s.toList) = true := by assumption
        go_ret
        refine ⟨ret_bool (HI.out.2 ⟨k, hlt, ?_⟩).symm, hb⟩
        rw [← HX.out, toList_data s]
        exact eq_of_beq hq
      · have hq : (x == s.toList) = false := by assumption
        go_round
        case rel =>
          refine ⟨k + 1, by go_num, by omega, hid ?_⟩
          intro j hj
          by_cases hjk : j = k
          · subst hjk
            rw [← HX.out, toList_data s]
            exact beq_eq_false_iff_ne.1 hq
          · exact H.out j (by omega)
        case measure => simp [intOf]; omega
    · have HI := hid (isWd_iff s.data.toList)
      go_wp2
      go_ret
      refine ⟨ret_bool ?_, hb⟩
      cases hq : Lx.isWd s.data.toList with
      | false => rfl
      | true =>
        obtain ⟨j, hj, he⟩ := HI.out.1 hq
        exact absurd he (H.out j (by omega))
end Go.Proofs.YtkckmfnmdkfkaaaDoor
