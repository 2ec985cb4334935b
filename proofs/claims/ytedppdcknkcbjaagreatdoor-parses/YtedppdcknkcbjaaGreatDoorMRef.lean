/-
  What the document's small functions on bytes answer, each for every byte: digit, letter, blank, pass.
  What the document's number answers, for every row of digits; its lists of words and signs; whether a name is a word.
  Signs, in plain words: which of the twenty a list begins with, and that it is the token there.
-/
import Derived.Test.YtedppdcknkcbjaaGreatDoorMBa
import Derived.WalkSpells
set_option linter.unusedVariables false
set_option linter.unusedSimpArgs false
namespace Go.Proofs.YtedppdcknkcbjaaGreatDoor
open Go.RowKit


set_option maxHeartbeats 400000 in
theorem digit_any (c : UInt8) (w : World) :
    Calls Tryz.prog 72 #[.int .u8 c.toNat] w fun e w' => e = .returned (.bool (Lx.isDig c)) ∧ w' = w := by
  go_enter Tryz.func72, Tryz.ntmps72
  go_wp2
  all_goals
    go_ret
    refine ⟨ret_bool ?_, rfl⟩
    unfold Lx.isDig
    rw [Bool.eq_iff_iff]
    simp
    omega

set_option maxHeartbeats 400000 in
theorem letter_any (c : UInt8) (w : World) :
    Calls Tryz.prog 74 #[.int .u8 c.toNat] w fun e w' => e = .returned (.bool (Lx.isLet c)) ∧ w' = w := by
  go_enter Tryz.func74, Tryz.ntmps74
  go_wp2
  all_goals
    go_ret
    refine ⟨ret_bool ?_, rfl⟩
    unfold Lx.isLet
    rw [Bool.eq_iff_iff]
    simp
    omega

set_option maxHeartbeats 400000 in
theorem blank_any (c : UInt8) (w : World) :
    Calls Tryz.prog 109 #[.int .u8 c.toNat] w fun e w' => e = .returned (.bool (Lx.isBl c)) ∧ w' = w := by
  go_enter Tryz.func109, Tryz.ntmps109
  go_wp2
  all_goals
    go_ret
    refine ⟨ret_bool ?_, rfl⟩
    unfold Lx.isBl
    rw [Bool.eq_iff_iff]
    simp
    omega

theorem drop_cons (s : ByteArray) (k : Nat) (h : k < s.size) : s.data.toList.drop k = s[k] :: s.data.toList.drop (k + 1) := by
  rw [List.drop_eq_getElem_cons (by simpa using h)]; rfl
theorem drop_end (s : ByteArray) (k : Nat) (h : s.size ≤ k) : s.data.toList.drop k = [] := List.drop_eq_nil_of_le (by simpa using h)

/-- pass: behind blanks and remarks. -/
def PassTo (s : ByteArray) (i j : Nat) : Prop :=
  i ≤ j ∧ j ≤ s.size ∧ Lx.toks s.size j (s.data.toList.drop j) = Lx.toks s.size i (s.data.toList.drop i) ∧ ∀ h : j < s.size, Lx.isBl s[j] = false ∧ (s[j]).toNat ≠ 35

theorem pass_blank {s : ByteArray} {i : Nat} (h : i < s.size) (hb : Lx.isBl s[i] = true) : Lx.toks s.size (i + 1) (s.data.toList.drop (i + 1)) = Lx.toks s.size i (s.data.toList.drop i) := by
  rw [drop_cons s i h, Lx.toks_blank _ _ _ _ hb]
theorem pass_hash {s : ByteArray} {i : Nat} (h : i < s.size) (hb : (s[i]).toNat = 35) : Lx.toksRem s.size i (s.data.toList.drop i) = Lx.toks s.size i (s.data.toList.drop i) := by
  rw [drop_cons s i h, Lx.toks_hash _ _ _ _ hb]
theorem pass_in {s : ByteArray} {i : Nat} (h : i < s.size) (hb : Lx.notNl s[i] = true) : Lx.toksRem s.size (i + 1) (s.data.toList.drop (i + 1)) = Lx.toksRem s.size i (s.data.toList.drop i) := by
  rw [drop_cons s i h, Lx.toksRem_in _ _ _ _ hb]
theorem pass_nl {s : ByteArray} {i : Nat} (h : i < s.size) (hb : (s[i]).toNat = 10) : Lx.toks s.size i (s.data.toList.drop i) = Lx.toksRem s.size i (s.data.toList.drop i) := by
  rw [drop_cons s i h, Lx.toksRem_nl _ _ _ _ hb]
theorem pass_end {s : ByteArray} {i : Nat} (h : s.size ≤ i) : Lx.toks s.size i (s.data.toList.drop i) = Lx.toksRem s.size i (s.data.toList.drop i) := by
  rw [drop_end s i h, Lx.toksRem_nil, Lx.toks_nil]


set_option maxHeartbeats 1000000 in
theorem pass_any (s : ByteArray) (i : Nat) (w : World) (hs : s.size ≤ 3000) (hi : i ≤ s.size) :
    Calls Tryz.prog 71 #[.string s, .int .i64 i] w fun e w' => ∃ j : Nat, e = .returned (.int .i64 j) ∧ PassTo s i j ∧ w' = w := by
  go_enter Tryz.func71, Tryz.ntmps71
  go_wp2
  go_loop [1] (fun t => ∃ k : Nat, t = .int .i64 k ∧ i ≤ k ∧ k ≤ s.size ∧ Hid (Lx.toks s.size k (s.data.toList.drop k) = Lx.toks s.size i (s.data.toList.drop i))) (fun t => s.size - (intOf t).toNat)
  case atStart => exact ⟨i, rfl, Nat.le_refl _, hi, hid rfl⟩
  case round =>
    obtain ⟨k, rfl, hik, hk, H⟩ := hrel
    by_cases hlt : k < s.size
    · cases hb : Lx.isBl s[k] with
      | true =>
        have H2 := hid (pass_blank hlt hb)
        go_wp2_with (go_at_call 109; refine (blank_any _ _).mono ?_; rintro e w' ⟨rfl, rfl⟩)
        go_round
        case rel => exact ⟨k + 1, by go_num, by omega, by omega, hid (H2.out.trans H.out)⟩
        case measure => simp [intOf]; omega
      | false =>
        by_cases h35 : (s[k]).toNat = 35
        · have H2 := hid (pass_hash hlt h35)
          have h35' : (((s[k]).toNat : Int) != 35) = false := by simp [h35]
          have H35 := hid h35
          clear h35
          go_wp2_with (go_at_call 109; refine (blank_any _ _).mono ?_; rintro e w' ⟨rfl, rfl⟩)
          go_loop [1] (fun t => ∃ j : Nat, t = .int .i64 j ∧ k ≤ j ∧ j ≤ s.size ∧ Hid (Lx.toksRem s.size j (s.data.toList.drop j) = Lx.toksRem s.size k (s.data.toList.drop k))) (fun t => s.size - (intOf t).toNat)
          case atStart => exact ⟨k, rfl, Nat.le_refl _, hk, hid rfl⟩
          case round =>
            obtain ⟨j, rfl, hkj, hj, HJ⟩ := hrel
            by_cases hjl : j < s.size
            · by_cases h10 : (s[j]).toNat = 10
              · have hne : j ≠ k := by
                  intro e
                  subst e
                  have := H35.out
                  omega
                have H10 := hid (pass_nl hjl h10)
                have h10' : (((s[j]).toNat : Int) != 10) = false := by simp [h10]
                clear h10
                go_wp2
                go_round
                case rel => exact ⟨j, rfl, by omega, by omega, hid (H10.out.trans (HJ.out.trans (H2.out.trans H.out)))⟩
                case measure => simp [intOf]; omega
              · have H10 := hid (pass_in hjl (show Lx.notNl s[j] = true by simp [Lx.notNl, h10]))
                have h10' : (((s[j]).toNat : Int) != 10) = true := by simp; omega
                clear h10
                go_wp2
                go_round
                case rel => exact ⟨j + 1, by go_num, by omega, by omega, hid (H10.out.trans HJ.out)⟩
                case measure => simp [intOf]; omega
            · have H10 := hid (pass_end (s := s) (i := j) (by omega))
              go_wp2
              go_round
              case rel => exact ⟨j, rfl, by omega, by omega, hid (H10.out.trans (HJ.out.trans (H2.out.trans H.out)))⟩
              case measure => simp [intOf]; omega
        · have h35' : (((s[k]).toNat : Int) != 35) = true := by simp; omega
          have HP : Hid (PassTo s i k) := ⟨hik, hk, H.out, fun _ => ⟨hb, h35⟩⟩
          clear h35
          go_wp2_with (go_at_call 109; refine (blank_any _ _).mono ?_; rintro e w' ⟨rfl, rfl⟩)
          go_ret
          exact ⟨k, rfl, HP.out, rfl⟩
    · go_wp2
      go_ret
      exact ⟨k, rfl, ⟨hik, hk, H.out, fun h => absurd h hlt⟩, rfl⟩
end Go.Proofs.YtedppdcknkcbjaaGreatDoor

namespace Go.Proofs.YtedppdcknkcbjaaGreatDoor
open Go.RowKit

theorem numVal_snoc (l : List UInt8) (c : UInt8) : Lx.numVal (l ++ [c]) = 10 * Lx.numVal l + (c.toNat - 48) := by simp [Lx.numVal]
theorem take_snoc (s : ByteArray) (k : Nat) (h : k < s.size) : s.data.toList.take (k + 1) = s.data.toList.take k ++ [s[k]] := by
  rw [List.take_succ_eq_append_getElem (by simpa using h)]; rfl
theorem numVal_mono (l m : List UInt8) : Lx.numVal l ≤ Lx.numVal (l ++ m) := by
  induction m generalizing l with
  | nil => simp
  | cons c m ih =>
    have h1 := numVal_snoc l c
    have h2 := ih (l ++ [c])
    rw [List.append_assoc, List.singleton_append] at h2
    omega
theorem numVal_take (l : List UInt8) (k : Nat) : Lx.numVal (l.take k) ≤ Lx.numVal l := by
  have := numVal_mono (l.take k) (l.drop k)
  rwa [List.take_append_drop] at this

theorem head_eq (s : ByteArray) (h : 0 < s.size) : s.data.toList.head? = some s[0] := by
  have := drop_cons s 0 h
  rw [List.drop_zero] at this
  rw [this]; rfl
theorem size_len (s : ByteArray) : s.data.toList.length = s.size := by simp
theorem u8_eq {c : UInt8} {n : Nat} (hn : n < 256) (h : c.toNat = n) : c = UInt8.ofNat n := by
  apply UInt8.toNat_inj.1
  rw [h, UInt8.toNat_ofNat']
  omega
theorem okNum_bad (s : ByteArray) (h : 1 < s.size) (h48 : (s[0]).toNat = 48) : Lx.okNum s.data.toList = false := by
  unfold Lx.okNum
  rw [head_eq s (by omega), size_len, u8_eq (by omega) h48]
  simp [h]
theorem okNum_big (l : List UInt8) (h : 9223372036854775807 < Lx.numVal l) : Lx.okNum l = false := by
  unfold Lx.okNum
  rw [decide_eq_false (by omega : ¬ Lx.numVal l ≤ 9223372036854775807), Bool.and_false]
theorem okNum_good (s : ByteArray) (h0 : 0 < s.size) (h : 1 < s.size → (s[0]).toNat ≠ 48) (hv : Lx.numVal s.data.toList ≤ 9223372036854775807) : Lx.okNum s.data.toList = true := by
  unfold Lx.okNum
  rw [decide_eq_true hv, head_eq s h0, size_len, Bool.and_true]
  by_cases h1 : 1 < s.size
  · have h2 : (s[0] == 48) = false := by
      rw [beq_eq_false_iff_ne]
      intro e
      apply h h1
      rw [e]; rfl
    simp [h2]
  · simp [h1]

def RNum (s : ByteArray) (w : World) (e : Ending) (w' : World) : Prop :=
  ∃ (n : Int) (ok : Bool), e = .returned (.tuple #[.int .i64 n, .bool ok]) ∧ ok = Lx.okNum s.data.toList ∧ (ok = true → n = Lx.numVal s.data.toList) ∧ w' = w

set_option maxHeartbeats 1000000 in
theorem rnumber_any (s : ByteArray) (w : World) (hs : s.size ≤ 3000) (h0 : 0 < s.size) (hd : ∀ k (h : k < s.size), 48 ≤ (s[k]).toNat ∧ (s[k]).toNat ≤ 57) :
    Calls Tryz.prog 73 #[.string s] w fun e w' => RNum s w e w' := by
  have main : ∀ hz : (1 < s.size → (s[0]).toNat ≠ 48), (s.size ≤ 1 ∨ ((((s[0]).toNat : Int) == 48) = false)) → _ := fun hz hz2 => (show Calls Tryz.prog 73 #[.string s] w fun e w' => RNum s w e w' by
    have HZ := hid hz
    clear hz
    rcases hz2 with hz2 | hz2
    all_goals
      go_enter Tryz.func73, Tryz.ntmps73
      go_wp2
      try (rename_i hq; exfalso; omega)
    all_goals
      go_loop [4, 5] (fun n i => ∃ (k : Nat) (a : Int), i = .int .i64 k ∧ n = .int .i64 a ∧ k ≤ s.size ∧ 0 ≤ a ∧ a ≤ 9223372036854775807 ∧ Hid (a = Lx.numVal (s.data.toList.take k))) (fun _ i => s.size - (intOf i).toNat)
      case atStart => exact ⟨0, 0, rfl, rfl, by omega, by omega, by omega, hid rfl⟩
      case round =>
        obtain ⟨k, a, rfl, rfl, hk, ha0, ha1, H⟩ := hrel
        by_cases hlt : k < s.size
        · have hdk := hd k hlt
          have hd1 : (48 : Int) ≤ (s[k]).toNat := by omega
          have hd2 : ((s[k]).toNat : Int) ≤ 57 := by omega
          have HN := hid (numVal_snoc (s.data.toList.take k) s[k])
          have HT := hid (take_snoc s k hlt)
          have HM := hid (numVal_take s.data.toList (k + 1))
          clear hdk hd
          go_wp2
          · go_ret2
            have hb : Lx.okNum s.data.toList = false := by
              apply okNum_big
              have h1 := H.out
              have h2 := HN.out
              have h3 := HM.out
              rw [HT.out] at h3
              omega
            exact ⟨0, false, rfl, hb.symm, (fun h => by cases h), rfl⟩
          · go_round
            case rel =>
              refine ⟨k + 1, _, by go_num, rfl, by omega, by omega, by omega, hid ?_⟩
              have h1 := H.out
              have h2 := HN.out
              rw [HT.out]
              omega
            case measure => simp [intOf]; omega
        · go_wp2
          go_ret2
          have hk2 : k = s.size := by omega
          have h1 := H.out
          rw [List.take_of_length_le (by simp; omega)] at h1
          exact ⟨a, true, rfl, (okNum_good s h0 HZ.out (by omega)).symm, fun _ => h1, rfl⟩)
  by_cases h1 : 1 < s.size
  · by_cases h48 : (s[0]).toNat = 48
    · have HB := hid (okNum_bad s h1 h48)
      have h48' : (((s[0]).toNat : Int) == 48) = true := by simp [h48]
      clear h48 main
      go_enter Tryz.func73, Tryz.ntmps73
      go_wp2
      go_ret2
      exact ⟨0, false, rfl, HB.out.symm, (fun h => by cases h), rfl⟩
    · exact main (fun _ => h48) (.inr (by simp; omega))
  · exact main (fun h => absurd h h1) (.inl (by omega))

def strVals (L : List (List UInt8)) : List Value := L.map fun l => .string ⟨l.toArray⟩
/-- A row of texts that lies in a block. -/
def StrRow (w : World) (b : Nat) (L : List (List UInt8)) : Prop := ∀ k, k < L.length → w.cell? ⟨b, k, none⟩ = some (.string ⟨(L.getD k []).toArray⟩)
def signList : List (List UInt8) := [[58, 58], [61, 61], [61, 62], [45, 62], [40], [41], [91], [93], [123], [125], [44], [59], [58], [61], [45], [43], [42], [60], [124], [126]]

theorem strRow_new (w : World) (L : List (List UInt8)) (e : TypeId) : StrRow (w.alloc (.cells (strVals L).toArray e)) w.heap.size L := by
  intro k hk
  rw [cell_of_row _ w.heap.size k (strVals L).toArray e (0, 0) (heap_alloc_new w _)]
  simp [strVals, hk]

set_option maxHeartbeats 1000000 in
theorem words_any (w : World) :
    Calls Tryz.prog 110 #[] w fun e w' => e = .returned (.slice (some ⟨w.heap.size, 0, none⟩) 28 28) ∧ StrRow w' w.heap.size Lx.wordList ∧ Below w.heap.size w w' := by
  have H := hid (strRow_new w Lx.wordList 9)
  go_enter Tryz.func110, Tryz.ntmps110
  go_wp2
  go_ret
  exact ⟨rfl, H.out, (Below.refl _ _).alloc (Nat.le_refl _) _⟩

set_option maxHeartbeats 1000000 in
theorem signs_any (w : World) :
    Calls Tryz.prog 76 #[] w fun e w' => e = .returned (.slice (some ⟨w.heap.size, 0, none⟩) 20 20) ∧ StrRow w' w.heap.size signList ∧ Below w.heap.size w w' := by
  have H := hid (strRow_new w signList 9)
  go_enter Tryz.func76, Tryz.ntmps76
  go_wp2
  go_ret
  exact ⟨rfl, H.out, (Below.refl _ _).alloc (Nat.le_refl _) _⟩

theorem isWd_iff (l : List UInt8) : Lx.isWd l = true ↔ ∃ k, k < 28 ∧ Lx.wordList.getD k [] = l := by
  unfold Lx.isWd
  rw [List.contains_iff_mem, List.mem_iff_getElem]
  constructor
  · rintro ⟨i, hi, he⟩
    exact ⟨i, hi, by rw [List.getD_eq_getElem?_getD, List.getElem?_eq_getElem hi]; exact he⟩
  · rintro ⟨i, hi, he⟩
    have hi' : i < Lx.wordList.length := hi
    exact ⟨i, hi', by rw [List.getD_eq_getElem?_getD, List.getElem?_eq_getElem hi'] at he; exact he⟩

theorem toList_data (s : ByteArray) : s.data.toList = s.toList := (ByteArray.toList_eq s).symm

set_option maxHeartbeats 1000000 in
theorem isWord_any (s : ByteArray) (w : World) :
    Calls Tryz.prog 75 #[.string s] w fun e w' => e = .returned (.bool (Lx.isWd s.data.toList)) ∧ Below w.heap.size w w' := by
  go_enter Tryz.func75, Tryz.ntmps75
  go_wp2_with (go_at_call 110; refine (words_any _).mono ?_; rintro e w1 ⟨rfl, hrow, hb⟩)
  go_loop [4] (fun t => ∃ k : Nat, t = .int .i64 k ∧ k ≤ 28 ∧ Hid (∀ j, j < k → Lx.wordList.getD j [] ≠ s.data.toList)) (fun t => 28 - (intOf t).toNat)
  case atStart => exact ⟨0, rfl, by omega, fun j hj => absurd hj (by omega)⟩
  case round =>
    obtain ⟨k, rfl, hk, H⟩ := hrel
    by_cases hlt : k < 28
    · have hc := hrow k hlt
      have HI := hid (isWd_iff s.data.toList)
      obtain ⟨x, hx⟩ : ∃ x, x = Lx.wordList.getD k [] := ⟨_, rfl⟩
      rw [← hx] at hc
      have HX := hid hx
      clear hx hrow
      go_wp2
      · have hq : (x == s.toList) = true := by assumption
        go_ret
        refine ⟨ret_bool (HI.out.2 ⟨k, hlt, ?_⟩).symm, hb⟩
        rw [← HX.out, toList_data s]
        exact eq_of_beq hq
      · have hq : (x == s.toList) = false := by assumption
        go_round
        case rel =>
          refine ⟨k + 1, by go_num, by omega, hid ?_⟩
          intro j hj
          by_cases hjk : j = k
          · subst hjk
            rw [← HX.out, toList_data s]
            exact beq_eq_false_iff_ne.1 hq
          · exact H.out j (by omega)
        case measure => simp [intOf]; omega
    · have HI := hid (isWd_iff s.data.toList)
      go_wp2
      go_ret
      refine ⟨ret_bool ?_, hb⟩
      cases hq : Lx.isWd s.data.toList with
      | false => rfl
      | true =>
        obtain ⟨j, hj, he⟩ := HI.out.1 hq
        exact absurd he (H.out j (by omega))
end Go.Proofs.YtedppdcknkcbjaaGreatDoor

namespace Go.Proofs.YtedppdcknkcbjaaGreatDoor
open Go.RowKit

def Begins (l : List UInt8) (q : Nat) : Prop := l.take (signList.getD q []).length = signList.getD q []

theorem signLen_one {l : List UInt8} (hn : ∀ q, q < 4 → ¬ Begins l q) : Lx.signLen l = 1 := by
  have h0 := hn 0 (by omega)
  have h1 := hn 1 (by omega)
  have h2 := hn 2 (by omega)
  have h3 := hn 3 (by omega)
  simp only [Begins, signList, List.getD_cons_zero, List.getD_cons_succ, List.length_cons, List.length_nil] at h0 h1 h2 h3
  unfold Lx.signLen
  rw [if_neg]
  simp only [Lx.twos, List.contains_iff_mem, List.mem_cons, List.not_mem_nil, or_false, not_or]
  exact ⟨h0, h1, h2, h3⟩

theorem signLen_two {l : List UInt8} {q : Nat} (hq : q < 4) (h : Begins l q) : Lx.signLen l = 2 := by
  have hh : l.take 2 = signList.getD q [] := by
    rcases (show q = 0 ∨ q = 1 ∨ q = 2 ∨ q = 3 by omega) with rfl | rfl | rfl | rfl <;> exact h
  unfold Lx.signLen
  rw [if_pos]
  rw [hh]
  rcases (show q = 0 ∨ q = 1 ∨ q = 2 ∨ q = 3 by omega) with rfl | rfl | rfl | rfl <;> decide

theorem begins_sg {c : UInt8} {r : List UInt8} {q : Nat} (hq : q < 20) (h : Begins (c :: r) q) : Lx.isSg c = true := by
  have hc : some c = (signList.getD q []).head? := by
    rcases (show q = 0 ∨ q = 1 ∨ q = 2 ∨ q = 3 ∨ q = 4 ∨ q = 5 ∨ q = 6 ∨ q = 7 ∨ q = 8 ∨ q = 9 ∨ q = 10 ∨ q = 11 ∨ q = 12 ∨ q = 13 ∨ q = 14 ∨ q = 15 ∨ q = 16 ∨ q = 17 ∨ q = 18 ∨ q = 19 by omega)
      with rfl | rfl | rfl | rfl | rfl | rfl | rfl | rfl | rfl | rfl | rfl | rfl | rfl | rfl | rfl | rfl | rfl | rfl | rfl | rfl
    all_goals
      simp only [Begins, signList, List.getD_cons_zero, List.getD_cons_succ, List.length_cons, List.length_nil, List.take_succ_cons, List.cons.injEq] at h
      simp [signList, h.1]
  have hall : ∀ q, q < 20 → (signList.getD q []).head?.map Lx.isSg = some true := by decide
  have h2 := hall q hq
  rw [← hc] at h2
  simpa using h2

theorem begins_sum {c : UInt8} {r : List UInt8} (h : Lx.isSg c = true) : ∃ q, q < 20 ∧ Begins (c :: r) q := by
  simp only [Lx.isSg, Lx.sigBytes, List.contains_iff_mem, List.mem_cons, List.not_mem_nil, or_false] at h
  rcases h with rfl | rfl | rfl | rfl | rfl | rfl | rfl | rfl | rfl | rfl | rfl | rfl | rfl | rfl | rfl | rfl
  · exact ⟨4, by omega, by simp [Begins, signList]⟩
  · exact ⟨5, by omega, by simp [Begins, signList]⟩
  · exact ⟨6, by omega, by simp [Begins, signList]⟩
  · exact ⟨7, by omega, by simp [Begins, signList]⟩
  · exact ⟨8, by omega, by simp [Begins, signList]⟩
  · exact ⟨9, by omega, by simp [Begins, signList]⟩
  · exact ⟨10, by omega, by simp [Begins, signList]⟩
  · exact ⟨11, by omega, by simp [Begins, signList]⟩
  · exact ⟨12, by omega, by simp [Begins, signList]⟩
  · exact ⟨13, by omega, by simp [Begins, signList]⟩
  · exact ⟨14, by omega, by simp [Begins, signList]⟩
  · exact ⟨15, by omega, by simp [Begins, signList]⟩
  · exact ⟨16, by omega, by simp [Begins, signList]⟩
  · exact ⟨17, by omega, by simp [Begins, signList]⟩
  · exact ⟨18, by omega, by simp [Begins, signList]⟩
  · exact ⟨19, by omega, by simp [Begins, signList]⟩

theorem sign_lens : ∀ q, q < 20 → (signList.getD q []).length = if q < 4 then 2 else 1 := by decide

theorem sign_hit (pos : Nat) {c : UInt8} {r : List UInt8} (h0 : Lx.isDig c = false) (h1 : Lx.isLet c = false) {k : Nat} (hk : k < 20) (hm : Begins (c :: r) k) (hn : ∀ q, q < k → ¬ Begins (c :: r) q) :
    Lx.tokAt pos (c :: r) = .ok (⟨4, pos, signList.getD k [], 0⟩, (signList.getD k []).length) := by
  rw [Lx.tokAt_sg pos c r h0 h1 (begins_sg hk hm)]
  have hl := sign_lens k hk
  have hs : Lx.signLen (c :: r) = (signList.getD k []).length := by
    rw [hl]
    by_cases h4 : k < 4
    · rw [if_pos h4]; exact signLen_two h4 hm
    · rw [if_neg h4]; exact signLen_one (fun q hq => hn q (by omega))
  rw [hs, hm]

theorem sign_miss (pos : Nat) {c : UInt8} {r : List UInt8} (h0 : Lx.isDig c = false) (h1 : Lx.isLet c = false) (hn : ∀ q, q < 20 → ¬ Begins (c :: r) q) : Lx.tokAt pos (c :: r) = .error (2, pos) := by
  cases hs : Lx.isSg c with
  | false => exact Lx.tokAt_no pos c r h0 h1 hs
  | true =>
    obtain ⟨q, hq, hb⟩ := begins_sum (r := r) hs
    exact absurd hb (hn q hq)
end Go.Proofs.YtedppdcknkcbjaaGreatDoor
