import Derived.Test.YtejciampbnfbhaaMLex
import Derived.Test.YtejciampbnfbhaaMHd
import Derived.WalkSpells
import Derived.BigQuiet
import Derived.WalkSmall
import Derived.Deep.QuietTactic
set_option linter.unusedVariables false
set_option linter.unusedSimpArgs false
set_option maxRecDepth 100000
set_option maxHeartbeats 2000000
namespace Go.Proofs.Ytejciampbnfbhaa
namespace Lx
def tcons (t : Tk) (x : List Tk × (Nat × Nat)) : List Tk × (Nat × Nat) := (t :: x.1, x.2)
def toksF : Nat → Nat → List UInt8 → List Tk × (Nat × Nat)
 | 0, _, _ => ([], (0, 0))
 | _ + 1, _, [] => ([], (0, 0))
 | f + 1, pos, c :: r =>
  if isBl c then toksF f (pos + 1) r
  else if c.toNat = 35 then toksF f (pos + ((c :: r).takeWhile notNl).length) ((c :: r).dropWhile notNl)
  else match tokAt pos (c :: r) with
   | .error e => ([], e)
   | .ok (t, n) => tcons t (toksF f (pos + n) ((c :: r).drop n))
theorem toksF_fuel : ∀ (f g pos : Nat) (l : List UInt8), l.length < f → l.length < g → toksF f pos l = toksF g pos l := by
 intro f
 induction f with
 | zero => intro g pos l h; omega
 | succ f ih =>
  intro g pos l h1 h2
  obtain ⟨g, rfl⟩ : ∃ k, g = k + 1 := ⟨g - 1, by omega⟩
  cases l with
  | nil => simp [toksF]
  | cons c r =>
   simp only [List.length_cons] at h1 h2; simp only [toksF]
   split
   ·exact ih _ _ _ (by omega) (by omega)
   ·split
    ·rename_i h3
     have := dropWhile_len c r h3; exact ih _ _ _ (by omega) (by omega)
    ·cases hT : tokAt pos (c :: r) with
     | error e => rfl
     | ok x =>
      obtain ⟨t, n⟩ := x; have := tokAt_pos hT; simp only [List.length_cons] at this; simp only []; rw [ih g (pos + n) ((c :: r).drop n) (by simp; omega) (by simp; omega)]
def toks (_N pos : Nat) (l : List UInt8) : List Tk × (Nat × Nat) := toksF (l.length + 1) pos l
theorem toks_nil (N pos : Nat) : toks N pos [] = ([], (0, 0)) := by simp [toks, toksF]
theorem toks_blank (N pos : Nat) (c : UInt8) (r : List UInt8) (h : isBl c = true) : toks N pos (c :: r) = toks N (pos + 1) r := by
 show toksF (r.length + 1 + 1) pos (c :: r) = _
 simp only [toksF, h, if_true]
 rfl
def toksRem (N pos : Nat) (l : List UInt8) : List Tk × (Nat × Nat) := toks N (pos + (l.takeWhile notNl).length) (l.dropWhile notNl)
theorem toks_hash (N pos : Nat) (c : UInt8) (r : List UInt8) (h : c.toNat = 35) : toks N pos (c :: r) = toksRem N pos (c :: r) := by
 have hb : isBl c = false := by simp [isBl, h]
 have hd := dropWhile_len c r h
 unfold toksRem
 show toksF (r.length + 1 + 1) pos (c :: r) = toksF _ _ _
 rw [toksF]
 simp only [hb, Bool.false_eq_true, if_false, h, if_true]
 exact toksF_fuel _ _ _ _ (by omega) (by omega)
theorem toksRem_nil (N pos : Nat) : toksRem N pos [] = ([], (0, 0)) := by simp [toksRem, toks_nil]
theorem toksRem_nl (N pos : Nat) (c : UInt8) (r : List UInt8) (h : c.toNat = 10) : toksRem N pos (c :: r) = toks N pos (c :: r) := by
 have : notNl c = false := by simp [notNl, h]
 simp [toksRem, this]
theorem toksRem_in (N pos : Nat) (c : UInt8) (r : List UInt8) (h : notNl c = true) : toksRem N pos (c :: r) = toksRem N (pos + 1) r := by
 simp only [toksRem, List.takeWhile_cons, List.dropWhile_cons, h, if_true, List.length_cons]
 congr 1
 omega
theorem toks_err (N pos : Nat) (c : UInt8) (r : List UInt8) (h1 : isBl c = false) (h2 : c.toNat ≠ 35) {e : Nat × Nat} (h : tokAt pos (c :: r) = .error e) : toks N pos (c :: r) = ([], e) := by
 show toksF (r.length + 1 + 1) pos (c :: r) = _
 simp only [toksF, h1, h2, h, Bool.false_eq_true, if_false]
theorem toks_tok (N pos : Nat) (c : UInt8) (r : List UInt8) (h1 : isBl c = false) (h2 : c.toNat ≠ 35) {t : Tk} {n : Nat} (h : tokAt pos (c :: r) = .ok (t, n)) :
  toks N pos (c :: r) = tcons t (toks N (pos + n) ((c :: r).drop n)) := by
 have hp := tokAt_pos h
 simp only [List.length_cons] at hp
 show toksF (r.length + 1 + 1) pos (c :: r) = _
 simp only [toksF, h1, h2, h, Bool.false_eq_true, if_false]
 rw [toks, toksF_fuel (r.length + 1) (((c :: r).drop n).length + 1) _ _ (by simp; omega) (by omega)]
end Lx
end Go.Proofs.Ytejciampbnfbhaa

namespace Go.Proofs.Ytejciampbnfbhaa
open Go.RowKit
theorem digit_any (c : UInt8) (w : World) :
  Calls Try.prog 38 #[.int .u8 c.toNat] w fun e w' => e = .returned (.bool (Lx.isDig c)) ∧ w' = w := by
 go_enter Try.func38, Try.ntmps38
 go_wp2
 all_goals
  go_ret
  refine ⟨ret_bool ?_, rfl⟩
  unfold Lx.isDig
  rw [Bool.eq_iff_iff]
  simp
  omega
theorem letter_any (c : UInt8) (w : World) :
  Calls Try.prog 40 #[.int .u8 c.toNat] w fun e w' => e = .returned (.bool (Lx.isLet c)) ∧ w' = w := by
 go_enter Try.func40, Try.ntmps40
 go_wp2
 all_goals
  go_ret
  refine ⟨ret_bool ?_, rfl⟩
  unfold Lx.isLet
  rw [Bool.eq_iff_iff]
  simp
  omega
theorem blank_any (c : UInt8) (w : World) :
  Calls Try.prog 70 #[.int .u8 c.toNat] w fun e w' => e = .returned (.bool (Lx.isBl c)) ∧ w' = w := by
 go_enter Try.func70, Try.ntmps70
 go_wp2
 all_goals
  go_ret
  refine ⟨ret_bool ?_, rfl⟩
  unfold Lx.isBl
  rw [Bool.eq_iff_iff]
  simp
  omega
theorem drop_cons (s : ByteArray) (k : Nat) (h : k < s.size) : s.data.toList.drop k = s[k] :: s.data.toList.drop (k + 1) := by
 rw [List.drop_eq_getElem_cons (by simpa using h)]; rfl
theorem drop_end (s : ByteArray) (k : Nat) (h : s.size ≤ k) : s.data.toList.drop k = [] := List.drop_eq_nil_of_le (by simpa using h)
def PassTo (s : ByteArray) (i j : Nat) : Prop :=
 i ≤ j ∧ j ≤ s.size ∧ Lx.toks s.size j (s.data.toList.drop j) = Lx.toks s.size i (s.data.toList.drop i) ∧ ∀ h : j < s.size, Lx.isBl s[j] = false ∧ (s[j]).toNat ≠ 35
theorem pass_blank {s : ByteArray} {i : Nat} (h : i < s.size) (hb : Lx.isBl s[i] = true) : Lx.toks s.size (i + 1) (s.data.toList.drop (i + 1)) = Lx.toks s.size i (s.data.toList.drop i) := by
 rw [drop_cons s i h, Lx.toks_blank _ _ _ _ hb]
theorem pass_hash {s : ByteArray} {i : Nat} (h : i < s.size) (hb : (s[i]).toNat = 35) : Lx.toksRem s.size i (s.data.toList.drop i) = Lx.toks s.size i (s.data.toList.drop i) := by
 rw [drop_cons s i h, Lx.toks_hash _ _ _ _ hb]
theorem pass_in {s : ByteArray} {i : Nat} (h : i < s.size) (hb : Lx.notNl s[i] = true) : Lx.toksRem s.size (i + 1) (s.data.toList.drop (i + 1)) = Lx.toksRem s.size i (s.data.toList.drop i) := by
 rw [drop_cons s i h, Lx.toksRem_in _ _ _ _ hb]
theorem pass_nl {s : ByteArray} {i : Nat} (h : i < s.size) (hb : (s[i]).toNat = 10) : Lx.toks s.size i (s.data.toList.drop i) = Lx.toksRem s.size i (s.data.toList.drop i) := by
 rw [drop_cons s i h, Lx.toksRem_nl _ _ _ _ hb]
theorem pass_end {s : ByteArray} {i : Nat} (h : s.size ≤ i) : Lx.toks s.size i (s.data.toList.drop i) = Lx.toksRem s.size i (s.data.toList.drop i) := by
 rw [drop_end s i h, Lx.toksRem_nil, Lx.toks_nil]
theorem pass_any (s : ByteArray) (i : Nat) (w : World) (hs : s.size ≤ 3000) (hi : i ≤ s.size) :
  Calls Try.prog 37 #[.string s, .int .i64 i] w fun e w' => ∃ j : Nat, e = .returned (.int .i64 j) ∧ PassTo s i j ∧ w' = w := by
 go_enter Try.func37, Try.ntmps37
 go_wp2
 go_loop [1] (fun t => ∃ k : Nat, t = .int .i64 k ∧ i ≤ k ∧ k ≤ s.size ∧ Hid (Lx.toks s.size k (s.data.toList.drop k) = Lx.toks s.size i (s.data.toList.drop i))) (fun t => s.size - (intOf t).toNat)
 case atStart => exact ⟨i, rfl, Nat.le_refl _, hi, hid rfl⟩
 case round =>
  obtain ⟨k, rfl, hik, hk, H⟩ := hrel
  by_cases hlt : k < s.size
  ·cases hb : Lx.isBl s[k] with
   | true =>
    have H2 := hid (pass_blank hlt hb)
    go_wp2_with (go_at_call 70; refine (blank_any _ _).mono ?_; rintro e w' ⟨rfl, rfl⟩)
    go_round
    case rel => exact ⟨k + 1, by go_num, by omega, by omega, hid (H2.out.trans H.out)⟩
    case measure => simp [intOf]; omega
   | false =>
    by_cases h35 : (s[k]).toNat = 35
    ·have H2 := hid (pass_hash hlt h35)
     have h35' : (((s[k]).toNat : Int) != 35) = false := by simp [h35]
     have H35 := hid h35; clear h35
     go_wp2_with (go_at_call 70; refine (blank_any _ _).mono ?_; rintro e w' ⟨rfl, rfl⟩)
     go_loop [1] (fun t => ∃ j : Nat, t = .int .i64 j ∧ k ≤ j ∧ j ≤ s.size ∧ Hid (Lx.toksRem s.size j (s.data.toList.drop j) = Lx.toksRem s.size k (s.data.toList.drop k))) (fun t => s.size - (intOf t).toNat)
     case atStart => exact ⟨k, rfl, Nat.le_refl _, hk, hid rfl⟩
     case round =>
      obtain ⟨j, rfl, hkj, hj, HJ⟩ := hrel
      by_cases hjl : j < s.size
      ·by_cases h10 : (s[j]).toNat = 10
       ·have hne : j ≠ k := by
         intro e; subst e; have := H35.out; omega
        have H10 := hid (pass_nl hjl h10); have h10' : (((s[j]).toNat : Int) != 10) = false := by simp [h10]
        clear h10
        go_wp2
        go_round
        case rel => exact ⟨j, rfl, by omega, by omega, hid (H10.out.trans (HJ.out.trans (H2.out.trans H.out)))⟩
        case measure => simp [intOf]; omega
       ·have H10 := hid (pass_in hjl (show Lx.notNl s[j] = true by simp [Lx.notNl, h10]))
        have h10' : (((s[j]).toNat : Int) != 10) = true := by simp; omega
        clear h10
        go_wp2
        go_round
        case rel => exact ⟨j + 1, by go_num, by omega, by omega, hid (H10.out.trans HJ.out)⟩
        case measure => simp [intOf]; omega
      ·have H10 := hid (pass_end (s := s) (i := j) (by omega))
       go_wp2
       go_round
       case rel => exact ⟨j, rfl, by omega, by omega, hid (H10.out.trans (HJ.out.trans (H2.out.trans H.out)))⟩
       case measure => simp [intOf]; omega
    ·have h35' : (((s[k]).toNat : Int) != 35) = true := by simp; omega
     have HP : Hid (PassTo s i k) := ⟨hik, hk, H.out, fun _ => ⟨hb, h35⟩⟩; clear h35
     go_wp2_with (go_at_call 70; refine (blank_any _ _).mono ?_; rintro e w' ⟨rfl, rfl⟩)
     go_ret
     exact ⟨k, rfl, HP.out, rfl⟩
  ·go_wp2
   go_ret
   exact ⟨k, rfl, ⟨hik, hk, H.out, fun h => absurd h hlt⟩, rfl⟩
end Go.Proofs.Ytejciampbnfbhaa

namespace Go.Proofs.Ytejciampbnfbhaa
open Go.RowKit
theorem numVal_snoc (l : List UInt8) (c : UInt8) : Lx.numVal (l ++ [c]) = 10 * Lx.numVal l + (c.toNat - 48) := by simp [Lx.numVal]
theorem take_snoc (s : ByteArray) (k : Nat) (h : k < s.size) : s.data.toList.take (k + 1) = s.data.toList.take k ++ [s[k]] := by
 rw [List.take_succ_eq_append_getElem (by simpa using h)]; rfl
theorem numVal_mono (l m : List UInt8) : Lx.numVal l ≤ Lx.numVal (l ++ m) := by
 induction m generalizing l with
 | nil => simp
 | cons c m ih =>
  have h1 := numVal_snoc l c
  have h2 := ih (l ++ [c])
  rw [List.append_assoc, List.singleton_append] at h2
  omega
theorem numVal_take (l : List UInt8) (k : Nat) : Lx.numVal (l.take k) ≤ Lx.numVal l := by
 have := numVal_mono (l.take k) (l.drop k)
 rwa [List.take_append_drop] at this
theorem head_eq (s : ByteArray) (h : 0 < s.size) : s.data.toList.head? = some s[0] := by
 have := drop_cons s 0 h
 rw [List.drop_zero] at this
 rw [this]; rfl
theorem size_len (s : ByteArray) : s.data.toList.length = s.size := by simp
theorem u8_eq {c : UInt8} {n : Nat} (hn : n < 256) (h : c.toNat = n) : c = UInt8.ofNat n := by
 apply UInt8.toNat_inj.1
 rw [h, UInt8.toNat_ofNat']
 omega
theorem okNum_bad (s : ByteArray) (h : 1 < s.size) (h48 : (s[0]).toNat = 48) : Lx.okNum s.data.toList = false := by
 unfold Lx.okNum
 rw [head_eq s (by omega), size_len, u8_eq (by omega) h48]
 simp [h]
theorem okNum_big (l : List UInt8) (h : 9223372036854775807 < Lx.numVal l) : Lx.okNum l = false := by
 unfold Lx.okNum
 rw [decide_eq_false (by omega : ¬ Lx.numVal l ≤ 9223372036854775807), Bool.and_false]
theorem okNum_good (s : ByteArray) (h0 : 0 < s.size) (h : 1 < s.size → (s[0]).toNat ≠ 48) (hv : Lx.numVal s.data.toList ≤ 9223372036854775807) : Lx.okNum s.data.toList = true := by
 unfold Lx.okNum
 rw [decide_eq_true hv, head_eq s h0, size_len, Bool.and_true]
 by_cases h1 : 1 < s.size
 ·have h2 : (s[0] == 48) = false := by
   rw [beq_eq_false_iff_ne]; intro e
   apply h h1
   rw [e]; rfl
  simp [h2]
 ·simp [h1]
def RNum (s : ByteArray) (w : World) (e : Ending) (w' : World) : Prop :=
 ∃ (n : Int) (ok : Bool), e = .returned (.tuple #[.int .i64 n, .bool ok]) ∧ ok = Lx.okNum s.data.toList ∧ (ok = true → n = Lx.numVal s.data.toList) ∧ w' = w
theorem rnumber_any (s : ByteArray) (w : World) (hs : s.size ≤ 3000) (h0 : 0 < s.size) (hd : ∀ k (h : k < s.size), 48 ≤ (s[k]).toNat ∧ (s[k]).toNat ≤ 57) :
  Calls Try.prog 39 #[.string s] w fun e w' => RNum s w e w' := by
 have main : ∀ hz : (1 < s.size → (s[0]).toNat ≠ 48), (s.size ≤ 1 ∨ ((((s[0]).toNat : Int) == 48) = false)) → _ := fun hz hz2 => (show Calls Try.prog 39 #[.string s] w fun e w' => RNum s w e w' by
  have HZ := hid hz
  clear hz
  rcases hz2 with hz2 | hz2
  all_goals
   go_enter Try.func39, Try.ntmps39
   go_wp2
   try (rename_i hq; exfalso; omega)
  all_goals
   go_loop [4, 5] (fun n i => ∃ (k : Nat) (a : Int), i = .int .i64 k ∧ n = .int .i64 a ∧ k ≤ s.size ∧ 0 ≤ a ∧ a ≤ 9223372036854775807 ∧ Hid (a = Lx.numVal (s.data.toList.take k))) (fun _ i => s.size - (intOf i).toNat)
   case atStart => exact ⟨0, 0, rfl, rfl, by omega, by omega, by omega, hid rfl⟩
   case round =>
    obtain ⟨k, a, rfl, rfl, hk, ha0, ha1, H⟩ := hrel
    by_cases hlt : k < s.size
    ·have hdk := hd k hlt
     have hd1 : (48 : Int) ≤ (s[k]).toNat := by omega
     have hd2 : ((s[k]).toNat : Int) ≤ 57 := by omega
     have HN := hid (numVal_snoc (s.data.toList.take k) s[k]); have HT := hid (take_snoc s k hlt); have HM := hid (numVal_take s.data.toList (k + 1)); clear hdk hd
     go_wp2
     ·go_ret2
      have hb : Lx.okNum s.data.toList = false := by
       apply okNum_big
       have h1 := H.out; have h2 := HN.out; have h3 := HM.out; rw [HT.out] at h3; omega
      exact ⟨0, false, rfl, hb.symm, (fun h => by cases h), rfl⟩
     ·go_round
      case rel =>
       refine ⟨k + 1, _, by go_num, rfl, by omega, by omega, by omega, hid ?_⟩; have h1 := H.out; have h2 := HN.out; rw [HT.out]; omega
      case measure => simp [intOf]; omega
    ·go_wp2
     go_ret2
     have hk2 : k = s.size := by omega
     have h1 := H.out; rw [List.take_of_length_le (by simp; omega)] at h1
     exact ⟨a, true, rfl, (okNum_good s h0 HZ.out (by omega)).symm, fun _ => h1, rfl⟩)
 by_cases h1 : 1 < s.size
 ·by_cases h48 : (s[0]).toNat = 48
  ·have HB := hid (okNum_bad s h1 h48)
   have h48' : (((s[0]).toNat : Int) == 48) = true := by simp [h48]
   clear h48 main
   go_enter Try.func39, Try.ntmps39
   go_wp2
   go_ret2
   exact ⟨0, false, rfl, HB.out.symm, (fun h => by cases h), rfl⟩
  ·exact main (fun _ => h48) (.inr (by simp; omega))
 ·exact main (fun h => absurd h h1) (.inl (by omega))
def strVals (L : List (List UInt8)) : List Value := L.map fun l => .string ⟨l.toArray⟩
def StrRow (w : World) (b : Nat) (L : List (List UInt8)) : Prop := ∀ k, k < L.length → w.cell? ⟨b, k, none⟩ = some (.string ⟨(L.getD k []).toArray⟩)
def signList : List (List UInt8) := [[58, 58], [61, 61], [61, 62], [45, 62], [40], [41], [91], [93], [123], [125], [44], [59], [58], [61], [45], [43], [42], [60], [124], [126]]
theorem strRow_new (w : World) (L : List (List UInt8)) (e : TypeId) : StrRow (w.alloc (.cells (strVals L).toArray e)) w.heap.size L := by
 intro k hk
 rw [cell_of_row _ w.heap.size k (strVals L).toArray e (0, 0) (heap_alloc_new w _)]
 simp [strVals, hk]
theorem words_any (w : World) :
  Calls Try.prog 71 #[] w fun e w' => e = .returned (.slice (some ⟨w.heap.size, 0, none⟩) 28 28) ∧ StrRow w' w.heap.size Lx.wordList ∧ Below w.heap.size w w' := by
 have H := hid (strRow_new w Lx.wordList 9)
 go_enter Try.func71, Try.ntmps71
 go_wp2
 go_ret
 exact ⟨rfl, H.out, (Below.refl _ _).alloc (Nat.le_refl _) _⟩
theorem signs_any (w : World) :
  Calls Try.prog 42 #[] w fun e w' => e = .returned (.slice (some ⟨w.heap.size, 0, none⟩) 20 20) ∧ StrRow w' w.heap.size signList ∧ Below w.heap.size w w' := by
 have H := hid (strRow_new w signList 9)
 go_enter Try.func42, Try.ntmps42
 go_wp2
 go_ret
 exact ⟨rfl, H.out, (Below.refl _ _).alloc (Nat.le_refl _) _⟩
theorem isWd_iff (l : List UInt8) : Lx.isWd l = true ↔ ∃ k, k < 28 ∧ Lx.wordList.getD k [] = l := by
 unfold Lx.isWd
 rw [List.contains_iff_mem, List.mem_iff_getElem]
 constructor
 ·rintro ⟨i, hi, he⟩
  exact ⟨i, hi, by rw [List.getD_eq_getElem?_getD, List.getElem?_eq_getElem hi]; exact he⟩
 ·rintro ⟨i, hi, he⟩
  have hi' : i < Lx.wordList.length := hi
  exact ⟨i, hi', by rw [List.getD_eq_getElem?_getD, List.getElem?_eq_getElem hi'] at he; exact he⟩
theorem toList_data (s : ByteArray) : s.data.toList = s.toList := (ByteArray.toList_eq s).symm
theorem isWord_any (s : ByteArray) (w : World) :
  Calls Try.prog 41 #[.string s] w fun e w' => e = .returned (.bool (Lx.isWd s.data.toList)) ∧ Below w.heap.size w w' := by
 go_enter Try.func41, Try.ntmps41
 go_wp2_with (go_at_call 71; refine (words_any _).mono ?_; rintro e w1 ⟨rfl, hrow, hb⟩)
 go_loop [4] (fun t => ∃ k : Nat, t = .int .i64 k ∧ k ≤ 28 ∧ Hid (∀ j, j < k → Lx.wordList.getD j [] ≠ s.data.toList)) (fun t => 28 - (intOf t).toNat)
 case atStart => exact ⟨0, rfl, by omega, fun j hj => absurd hj (by omega)⟩
 case round =>
  obtain ⟨k, rfl, hk, H⟩ := hrel
  by_cases hlt : k < 28
  ·have hc := hrow k hlt
   have HI := hid (isWd_iff s.data.toList); obtain ⟨x, hx⟩ : ∃ x, x = Lx.wordList.getD k [] := ⟨_, rfl⟩; rw [← hx] at hc; have HX := hid hx; clear hx hrow
   go_wp2
   ·have hq : (x == s.toList) = true := by assumption
    go_ret
    refine ⟨ret_bool (HI.out.2 ⟨k, hlt, ?_⟩).symm, hb⟩; rw [← HX.out, toList_data s]; exact eq_of_beq hq
   ·have hq : (x == s.toList) = false := by assumption
    go_round
    case rel =>
     refine ⟨k + 1, by go_num, by omega, hid ?_⟩; intro j hj
     by_cases hjk : j = k
     ·subst hjk
      rw [← HX.out, toList_data s]; exact beq_eq_false_iff_ne.1 hq
     ·exact H.out j (by omega)
    case measure => simp [intOf]; omega
  ·have HI := hid (isWd_iff s.data.toList)
   go_wp2
   go_ret
   refine ⟨ret_bool ?_, hb⟩
   cases hq : Lx.isWd s.data.toList with
   | false => rfl
   | true =>
    obtain ⟨j, hj, he⟩ := HI.out.1 hq; exact absurd he (H.out j (by omega))
end Go.Proofs.Ytejciampbnfbhaa

namespace Go.Proofs.Ytejciampbnfbhaa
open Go.RowKit
def Begins (l : List UInt8) (q : Nat) : Prop := l.take (signList.getD q []).length = signList.getD q []
theorem signLen_one {l : List UInt8} (hn : ∀ q, q < 4 → ¬ Begins l q) : Lx.signLen l = 1 := by
 have h0 := hn 0 (by omega)
 have h1 := hn 1 (by omega)
 have h2 := hn 2 (by omega)
 have h3 := hn 3 (by omega)
 simp only [Begins, signList, List.getD_cons_zero, List.getD_cons_succ, List.length_cons, List.length_nil] at h0 h1 h2 h3
 unfold Lx.signLen
 rw [if_neg]
 simp only [Lx.twos, List.contains_iff_mem, List.mem_cons, List.not_mem_nil, or_false, not_or]
 exact ⟨h0, h1, h2, h3⟩
theorem signLen_two {l : List UInt8} {q : Nat} (hq : q < 4) (h : Begins l q) : Lx.signLen l = 2 := by
 have hh : l.take 2 = signList.getD q [] := by
  rcases (show q = 0 ∨ q = 1 ∨ q = 2 ∨ q = 3 by omega) with rfl | rfl | rfl | rfl <;> exact h
 unfold Lx.signLen
 rw [if_pos]
 rw [hh]
 rcases (show q = 0 ∨ q = 1 ∨ q = 2 ∨ q = 3 by omega) with rfl | rfl | rfl | rfl <;> decide
theorem begins_sg {c : UInt8} {r : List UInt8} {q : Nat} (hq : q < 20) (h : Begins (c :: r) q) : Lx.isSg c = true := by
 have hc : some c = (signList.getD q []).head? := by
  rcases (show q = 0 ∨ q = 1 ∨ q = 2 ∨ q = 3 ∨ q = 4 ∨ q = 5 ∨ q = 6 ∨ q = 7 ∨ q = 8 ∨ q = 9 ∨ q = 10 ∨ q = 11 ∨ q = 12 ∨ q = 13 ∨ q = 14 ∨ q = 15 ∨ q = 16 ∨ q = 17 ∨ q = 18 ∨ q = 19 by omega)
   with rfl | rfl | rfl | rfl | rfl | rfl | rfl | rfl | rfl | rfl | rfl | rfl | rfl | rfl | rfl | rfl | rfl | rfl | rfl | rfl
  all_goals
   simp only [Begins, signList, List.getD_cons_zero, List.getD_cons_succ, List.length_cons, List.length_nil, List.take_succ_cons, List.cons.injEq] at h
   simp [signList, h.1]
 have hall : ∀ q, q < 20 → (signList.getD q []).head?.map Lx.isSg = some true := by decide
 have h2 := hall q hq
 rw [← hc] at h2
 simpa using h2
theorem begins_sum {c : UInt8} {r : List UInt8} (h : Lx.isSg c = true) : ∃ q, q < 20 ∧ Begins (c :: r) q := by
 simp only [Lx.isSg, Lx.sigBytes, List.contains_iff_mem, List.mem_cons, List.not_mem_nil, or_false] at h
 rcases h with rfl | rfl | rfl | rfl | rfl | rfl | rfl | rfl | rfl | rfl | rfl | rfl | rfl | rfl | rfl | rfl
 ·exact ⟨4, by omega, by simp [Begins, signList]⟩
 ·exact ⟨5, by omega, by simp [Begins, signList]⟩
 ·exact ⟨6, by omega, by simp [Begins, signList]⟩
 ·exact ⟨7, by omega, by simp [Begins, signList]⟩
 ·exact ⟨8, by omega, by simp [Begins, signList]⟩
 ·exact ⟨9, by omega, by simp [Begins, signList]⟩
 ·exact ⟨10, by omega, by simp [Begins, signList]⟩
 ·exact ⟨11, by omega, by simp [Begins, signList]⟩
 ·exact ⟨12, by omega, by simp [Begins, signList]⟩
 ·exact ⟨13, by omega, by simp [Begins, signList]⟩
 ·exact ⟨14, by omega, by simp [Begins, signList]⟩
 ·exact ⟨15, by omega, by simp [Begins, signList]⟩
 ·exact ⟨16, by omega, by simp [Begins, signList]⟩
 ·exact ⟨17, by omega, by simp [Begins, signList]⟩
 ·exact ⟨18, by omega, by simp [Begins, signList]⟩
 ·exact ⟨19, by omega, by simp [Begins, signList]⟩
theorem sign_lens : ∀ q, q < 20 → (signList.getD q []).length = if q < 4 then 2 else 1 := by decide
theorem sign_hit (pos : Nat) {c : UInt8} {r : List UInt8} (h0 : Lx.isDig c = false) (h1 : Lx.isLet c = false) {k : Nat} (hk : k < 20) (hm : Begins (c :: r) k) (hn : ∀ q, q < k → ¬ Begins (c :: r) q) :
  Lx.tokAt pos (c :: r) = .ok (⟨4, pos, signList.getD k [], 0⟩, (signList.getD k []).length) := by
 rw [Lx.tokAt_sg pos c r h0 h1 (begins_sg hk hm)]
 have hl := sign_lens k hk
 have hs : Lx.signLen (c :: r) = (signList.getD k []).length := by
  rw [hl]
  by_cases h4 : k < 4
  ·rw [if_pos h4]; exact signLen_two h4 hm
  ·rw [if_neg h4]; exact signLen_one (fun q hq => hn q (by omega))
 rw [hs, hm]
theorem sign_miss (pos : Nat) {c : UInt8} {r : List UInt8} (h0 : Lx.isDig c = false) (h1 : Lx.isLet c = false) (hn : ∀ q, q < 20 → ¬ Begins (c :: r) q) : Lx.tokAt pos (c :: r) = .error (2, pos) := by
 cases hs : Lx.isSg c with
 | false => exact Lx.tokAt_no pos c r h0 h1 hs
 | true =>
  obtain ⟨q, hq, hb⟩ := begins_sum (r := r) hs
  exact absurd hb (hn q hq)
end Go.Proofs.Ytejciampbnfbhaa

namespace Go.Proofs.Ytejciampbnfbhaa
open Go.RowKit
theorem bcell {B : Nat} {W w1 : World} (hb : Below B W w1) : (∀ b o, b < B → w1.cell? ⟨b, o, none⟩ = W.cell? ⟨b, o, none⟩) ∧ (∀ b o, b < B → w1.frozen? ⟨b, o, none⟩ = W.frozen? ⟨b, o, none⟩) :=
 ⟨fun b o h => hb.cell (p := ⟨b, o, none⟩) h, fun b o h => hb.frozen (p := ⟨b, o, none⟩) h⟩
theorem takeWhile_take {p : UInt8 → Bool} : ∀ (l : List UInt8) (n : Nat), n ≤ l.length → (∀ i (h : i < l.length), i < n → p l[i] = true) → (∀ h : n < l.length, p l[n] = false) → l.takeWhile p = l.take n := by
 intro l
 induction l with
 | nil => intro n; simp
 | cons c r ih =>
  intro n hn hall hend
  cases n with
  | zero =>
   have := hend (by simp)
   simp at this
   simp [this]
  | succ n =>
   have hc : p c = true := hall 0 (by simp) (by omega); simp only [List.takeWhile_cons, hc, if_true, List.take_succ_cons]; rw [ih n (by simpa using hn) (fun i h hi => by have := hall (i + 1) (by simpa using h) (by omega); simpa using this) (fun h => by have := hend (by simpa using h); simpa using this)]
theorem drop_get (s : ByteArray) (j i : Nat) (h : j + i < s.size) : ∃ h2 : i < (s.data.toList.drop j).length, (s.data.toList.drop j)[i] = s[j + i] := by
 refine ⟨by simp; omega, ?_⟩
 rw [List.getElem_drop]; rfl
theorem run_take {p : UInt8 → Bool} (s : ByteArray) (j k : Nat) (hjk : j ≤ k) (hk : k ≤ s.size) (hall : ∀ q (h : q < s.size), j ≤ q → q < k → p s[q] = true) (hend : ∀ h : k < s.size, p s[k] = false) :
  (s.data.toList.drop j).takeWhile p = (s.data.toList.drop j).take (k - j) := by
 apply takeWhile_take
 ·simp; omega
 ·intro i h hi
  have hsz : j + i < s.size := by omega
  obtain ⟨h2, e⟩ := drop_get s j i hsz
  rw [e]
  exact hall (j + i) hsz (by omega) (by omega)
 ·intro h
  have hsz : k < s.size := by simp at h; omega
  obtain ⟨h2, e⟩ := drop_get s j (k - j) (by omega)
  have e2 : s[j + (k - j)]'(by omega) = s[k] := by congr 1; omega
  rw [e, e2]
  exact hend hsz
def tkVal (t : Lx.Tk) : Value := .agg #[.int .i64 t.kind, .int .i64 t.pos, .string ⟨t.text.toArray⟩, .int .i64 t.num]
def fltVal (k p : Nat) : Value := .agg #[.int .i64 k, .int .i64 p]
def NextPost (s : ByteArray) (i : Nat) (w : World) (e : Ending) (w' : World) : Prop :=
 Below w.heap.size w w' ∧ ∃ j, PassTo s i j ∧
  ((j = s.size ∧ e = .returned (.tuple #[tkVal ⟨0, s.size, [], 0⟩, .int .i64 s.size, fltVal 0 0])) ∨
   (j < s.size ∧ ∃ t n, Lx.tokAt j (s.data.toList.drop j) = .ok (t, n) ∧ e = .returned (.tuple #[tkVal t, .int .i64 (j + n : Nat), fltVal 0 0])) ∨
   (j < s.size ∧ ∃ k p, Lx.tokAt j (s.data.toList.drop j) = .error (k, p) ∧ e = .returned (.tuple #[tkVal ⟨0, 0, [], 0⟩, .int .i64 0, fltVal k p])))
theorem isDig_iff (c : UInt8) : Lx.isDig c = true ↔ 48 ≤ c.toNat ∧ c.toNat ≤ 57 := by simp [Lx.isDig]
theorem extract_list (s : ByteArray) (j k : Nat) : (s.extract j k).data.toList = (s.data.toList.drop j).take (k - j) := by simp
theorem extract_size (s : ByteArray) (j k : Nat) (hk : k ≤ s.size) : (s.extract j k).size = k - j := by rw [ByteArray.size_extract]; omega
theorem extract_get (s : ByteArray) (j k q : Nat) (hk : k ≤ s.size) (h : q < (s.extract j k).size) : ∃ h2 : j + q < s.size, (s.extract j k)[q] = s[j + q] := by
 have := extract_size s j k hk
 exact ⟨by omega, ByteArray.getElem_extract h⟩
theorem num_tok {s : ByteArray} {j : Nat} (hlt : j < s.size) (hdg : Lx.isDig s[j] = true) {l : List UInt8} (hl : (s.data.toList.drop j).takeWhile Lx.isDig = l) :
  (Lx.okNum l = true → Lx.tokAt j (s.data.toList.drop j) = .ok (⟨1, j, [], Lx.numVal l⟩, l.length)) ∧ (Lx.okNum l = false → Lx.tokAt j (s.data.toList.drop j) = .error (3, j)) := by
 rw [drop_cons s j hlt] at hl ⊢
 rw [Lx.tokAt_dig _ _ _ hdg, hl]
 constructor
 ·intro h; rw [if_pos h]
 ·intro h; rw [if_neg (by simp [h])]
theorem name_tok {s : ByteArray} {j : Nat} (hlt : j < s.size) (h0 : Lx.isDig s[j] = false) (h1 : Lx.isLet s[j] = true) {l : List UInt8} (hl : (s.data.toList.drop j).takeWhile Lx.isNm = l) :
  (l.length ≤ 20 → Lx.tokAt j (s.data.toList.drop j) = .ok (⟨if Lx.isWd l then 3 else 2, j, l, 0⟩, l.length)) ∧ (20 < l.length → Lx.tokAt j (s.data.toList.drop j) = .error (3, j)) := by
 rw [drop_cons s j hlt] at hl ⊢
 rw [Lx.tokAt_let _ _ _ h0 h1, hl]
 constructor
 ·intro h; rw [if_pos h]
 ·intro h; rw [if_neg (by omega)]
theorem next_ok {s : ByteArray} {i j : Nat} {w w' : World} {e : Ending} (HP : PassTo s i j) (hlt : j < s.size) {t : Lx.Tk} {n k : Nat} (h : Lx.tokAt j (s.data.toList.drop j) = .ok (t, n)) (hk : k = j + n)
  (he : e = .returned (.tuple #[tkVal t, .int .i64 k, fltVal 0 0])) (hb : Below w.heap.size w w') : NextPost s i w e w' :=
 ⟨hb, j, HP, .inr (.inl ⟨hlt, t, n, h, by rw [he, hk]⟩)⟩
theorem next_err {s : ByteArray} {i j : Nat} {w w' : World} {e : Ending} (HP : PassTo s i j) (hlt : j < s.size) {k p : Nat} (h : Lx.tokAt j (s.data.toList.drop j) = .error (k, p))
  (he : e = .returned (.tuple #[tkVal ⟨0, 0, [], 0⟩, .int .i64 0, fltVal k p])) (hb : Below w.heap.size w w') : NextPost s i w e w' :=
 ⟨hb, j, HP, .inr (.inr ⟨hlt, k, p, h, he⟩)⟩
theorem below_two {w w2 : World} {o1 o2 : Obj} (hb : Below ((w.alloc o1).alloc o2).heap.size ((w.alloc o1).alloc o2) w2) : Below w.heap.size w w2 :=
 (((Below.refl _ _).alloc (Nat.le_refl _) _).alloc (by simp) _).trans (hb.mono (by simp; omega))
theorem below_six {w w2 : World} (hb : Below w.heap.size w w2) (v0 v1 v2 v3 v4 v5 : Value) :
  Below w.heap.size w ((((((w2.setCell ⟨w.heap.size, 0, none⟩ v0).setCell ⟨w.heap.size, 1, none⟩ v1).setCell ⟨w.heap.size, 2, none⟩ v2).setCell ⟨w.heap.size, 3, none⟩ v3).setCell ⟨w.heap.size + 1, 0, none⟩ v4).setCell ⟨w.heap.size + 1, 1, none⟩ v5) :=
 (((((hb.setCell (Nat.le_refl _) _).setCell (Nat.le_refl _) _).setCell (Nat.le_refl _) _).setCell (Nat.le_refl _) _).setCell (Nat.le_succ _) _).setCell (Nat.le_succ _) _
theorem two_cells {w w2 : World} {a0 a1 a2 a3 b0 b1 : Value} {e1 e2 : TypeId} (hb : Below ((w.alloc (.cells #[a0, a1, a2, a3] e1)).alloc (.cells #[b0, b1] e2)).heap.size ((w.alloc (.cells #[a0, a1, a2, a3] e1)).alloc (.cells #[b0, b1] e2)) w2) :
  w2.cell? ⟨w.heap.size, 0, none⟩ = some a0 ∧ w2.cell? ⟨w.heap.size, 1, none⟩ = some a1 ∧ w2.cell? ⟨w.heap.size, 2, none⟩ = some a2 ∧ w2.cell? ⟨w.heap.size, 3, none⟩ = some a3 ∧ w2.cell? ⟨w.heap.size + 1, 0, none⟩ = some b0 ∧ w2.cell? ⟨w.heap.size + 1, 1, none⟩ = some b1 := by
 obtain ⟨hc, _⟩ := bcell hb
 refine ⟨(hc _ _ (by simp; omega)).trans (by simp), (hc _ _ (by simp; omega)).trans (by simp), (hc _ _ (by simp; omega)).trans (by simp), (hc _ _ (by simp; omega)).trans (by simp), (hc _ _ (by simp)).trans (by simp), (hc _ _ (by simp)).trans (by simp)⟩
theorem begins_of {s : ByteArray} {j k : Nat} {x : List UInt8} (hl : (s.extract j (j + x.length)).data.toList = (s.data.toList.drop j).take (j + x.length - j)) (hx : x = signList.getD k []) (h : ((s.extract j (j + x.length)).toList == x) = true) : Begins (s.data.toList.drop j) k := by
 have h2 := eq_of_beq h
 rw [← toList_data, hl, Nat.add_sub_cancel_left] at h2
 unfold Begins
 rw [← hx]
 exact h2
theorem begins_not {s : ByteArray} {j k : Nat} {x : List UInt8} (hl : (s.extract j (j + x.length)).data.toList = (s.data.toList.drop j).take (j + x.length - j)) (hx : x = signList.getD k []) (h : ((s.extract j (j + x.length)).toList == x) = false) : ¬ Begins (s.data.toList.drop j) k := by
 have h2 := beq_eq_false_iff_ne.1 h
 rw [← toList_data, hl, Nat.add_sub_cancel_left] at h2
 unfold Begins
 rw [← hx]
 exact h2
theorem begins_short {s : ByteArray} {j k : Nat} {x : List UInt8} (hj : j ≤ s.size) (hx : x = signList.getD k []) (h : ¬ j + x.length ≤ s.size) : ¬ Begins (s.data.toList.drop j) k := by
 unfold Begins
 rw [← hx]
 intro e
 have := congrArg List.length e
 simp at this
 omega
theorem sign_hit_at {s : ByteArray} {j k : Nat} (hlt : j < s.size) (h0 : Lx.isDig s[j] = false) (h1 : Lx.isLet s[j] = false) (hk : k < 20) (hm : Begins (s.data.toList.drop j) k) (hn : ∀ q, q < k → ¬ Begins (s.data.toList.drop j) q) :
  Lx.tokAt j (s.data.toList.drop j) = .ok (⟨4, j, signList.getD k [], 0⟩, (signList.getD k []).length) := by
 rw [drop_cons s j hlt] at hm hn ⊢
 exact sign_hit j h0 h1 hk hm hn
theorem sign_miss_at {s : ByteArray} {j : Nat} (hlt : j < s.size) (h0 : Lx.isDig s[j] = false) (h1 : Lx.isLet s[j] = false) (hn : ∀ q, q < 20 → ¬ Begins (s.data.toList.drop j) q) :
  Lx.tokAt j (s.data.toList.drop j) = .error (2, j) := by
 rw [drop_cons s j hlt] at hn ⊢
 exact sign_miss j h0 h1 hn
theorem next_any (s : ByteArray) (i : Nat) (w : World) (hs : s.size ≤ 3000) (hi : i ≤ s.size) :
  Calls Try.prog 14 #[.string s, .int .i64 i] w fun e w' => NextPost s i w e w' := by
 go_enter Try.func14, Try.ntmps14
 go_wp2_with fail
 refine (pass_any s i _ hs hi).mono ?_
 rintro e w1 ⟨j, rfl, HP0, rfl⟩
 have HP : Hid (PassTo s i j) := HP0
 have hj := HP0.2.1
 clear HP0
 by_cases hlt : j < s.size
 ·cases hdg : Lx.isDig s[j] with
  | true =>
   go_wp2_with (go_at_call 38; refine (digit_any _ _).mono ?_; rintro e w' ⟨rfl, rfl⟩)
   go_loop [7] (fun t => ∃ k : Nat, t = .int .i64 k ∧ j ≤ k ∧ k ≤ s.size ∧ Hid (∀ q (h : q < s.size), j ≤ q → q < k → Lx.isDig s[q] = true)) (fun t => s.size - (intOf t).toNat)
   case atStart => exact ⟨j, rfl, Nat.le_refl _, hj, hid (fun q h h1 h2 => absurd h2 (by omega))⟩
   case round =>
    obtain ⟨k, rfl, hjk, hk, H⟩ := hrel
    by_cases hgo : ∃ h : k < s.size, Lx.isDig s[k] = true
    ·obtain ⟨hkl, hdk⟩ := hgo
     go_wp2_with (go_at_call 38; refine (digit_any _ _).mono ?_; rintro e w' ⟨rfl, rfl⟩)
     go_round
     case rel =>
      refine ⟨k + 1, by go_num, by omega, by omega, hid ?_⟩; intro q h h1 h2
      by_cases hqk : q = k
      ·subst hqk; exact hdk
      ·exact H.out q h h1 (by omega)
     case measure => simp [intOf]; omega
    ·have hend : ∀ h : k < s.size, Lx.isDig s[k] = false := fun h => by
      cases hq : Lx.isDig s[k] with
      | false => rfl
      | true => exact absurd ⟨h, hq⟩ hgo
     have HT := hid (num_tok hlt hdg ((run_take s j k hjk hk H.out hend).trans (extract_list s j k).symm))
     have hne : j < k := by
      by_cases e : j = k
      ·subst e
       rw [hend hlt] at hdg; cases hdg
      ·omega
     have HL := hid (size_len (s.extract j k)); have HS := hid (extract_size s j k hk)
     have HD : Hid (∀ q (h : q < (s.extract j k).size), 48 ≤ ((s.extract j k)[q]).toNat ∧ ((s.extract j k)[q]).toNat ≤ 57) := by
      intro q h; obtain ⟨h2, e⟩ := extract_get s j k q hk h; rw [e]; have := extract_size s j k hk; exact (isDig_iff _).1 (H.out (j + q) h2 (by omega) (by omega))
     clear hgo
     rcases (show (∃ h : k < s.size, Lx.isDig s[k] = false) ∨ s.size ≤ k from by
      by_cases hkl : k < s.size
      ·exact .inl ⟨hkl, hend hkl⟩
      ·exact .inr (by omega)) with ⟨hkl, hdk⟩ | hkl
     all_goals
      clear hend
      go_wp2_with (first | (go_at_call 38; refine (digit_any _ _).mono ?_; rintro e w' ⟨rfl, rfl⟩) | fail)
      refine (rnumber_any (s.extract j k) _ (by rw [HS.out]; omega) (by rw [HS.out]; omega) HD.out).mono ?_; rintro e w2 ⟨n, ok, rfl, hok, hn, rfl⟩
      cases ok with
      | true =>
       have HN := hid (hn rfl); have HO := hid hok; clear hn hok
       go_wp2
       refine bodyPost_ret (v := .tuple #[.agg #[.int .i64 1, .int .i64 j, .string ⟨#[]⟩, .int .i64 n], .int .i64 k, .agg #[.int .i64 0, .int .i64 0]]) (by simp [results, Try.results14, go_sem]) rfl (next_ok (k := k) HP.out hlt (HT.out.1 HO.out.symm) (by rw [HL.out, HS.out]; omega) (by rw [HN.out]; rfl) (((Below.refl _ _).alloc (Nat.le_refl _) _).alloc (by simp) _))
      | false =>
       have HO := hid hok; clear hn hok
       go_wp2
       refine bodyPost_ret (v := .tuple #[tkVal ⟨0, 0, [], 0⟩, .int .i64 0, fltVal 3 j]) (by simp [results, Try.results14, go_sem, tkVal, fltVal]) rfl (next_err HP.out hlt (HT.out.2 HO.out.symm) rfl (((Below.refl _ _).alloc (Nat.le_refl _) _).alloc (by simp) _))
  | false =>
   cases hlg : Lx.isLet s[j] with
   | true =>
    go_wp2_with (first | (go_at_call 38; refine (digit_any _ _).mono ?_; rintro e w' ⟨rfl, rfl⟩) | (go_at_call 40; refine (letter_any _ _).mono ?_; rintro e w' ⟨rfl, rfl⟩))
    go_loop [7] (fun t => ∃ k : Nat, t = .int .i64 k ∧ j ≤ k ∧ k ≤ s.size ∧ Hid (∀ q (h : q < s.size), j ≤ q → q < k → Lx.isNm s[q] = true)) (fun t => s.size - (intOf t).toNat)
    case atStart => exact ⟨j, rfl, Nat.le_refl _, hj, hid (fun q h h1 h2 => absurd h2 (by omega))⟩
    case round =>
     obtain ⟨k, rfl, hjk, hk, H⟩ := hrel
     by_cases hgo : ∃ h : k < s.size, Lx.isNm s[k] = true
     ·obtain ⟨hkl, hdk⟩ := hgo
      have HDK := hid hdk
      rcases (show Lx.isLet s[k] = true ∨ (Lx.isLet s[k] = false ∧ Lx.isDig s[k] = true) from by
       cases hq : Lx.isLet s[k] with
       | true => exact .inl rfl
       | false => exact .inr ⟨rfl, by simpa [Lx.isNm, hq] using hdk⟩) with hq | ⟨hq, hq2⟩
      all_goals
       clear hdk
       go_wp2_with (first | (go_at_call 38; refine (digit_any _ _).mono ?_; rintro e w' ⟨rfl, rfl⟩) | (go_at_call 40; refine (letter_any _ _).mono ?_; rintro e w' ⟨rfl, rfl⟩))
       go_round
       case rel =>
        refine ⟨k + 1, by go_num, by omega, by omega, hid ?_⟩; intro q h h1 h2
        by_cases hqk : q = k
        ·subst hqk; exact HDK.out
        ·exact H.out q h h1 (by omega)
       case measure => simp [intOf]; omega
     ·have hend : ∀ h : k < s.size, Lx.isNm s[k] = false := fun h => by
       cases hq : Lx.isNm s[k] with
       | false => rfl
       | true => exact absurd ⟨h, hq⟩ hgo
      have HT := hid (name_tok hlt hdg hlg ((run_take s j k hjk hk H.out hend).trans (extract_list s j k).symm)); have HL := hid (size_len (s.extract j k)); have HS := hid (extract_size s j k hk); clear hgo
      rcases (show (∃ h : k < s.size, Lx.isLet s[k] = false ∧ Lx.isDig s[k] = false) ∨ s.size ≤ k from by
       by_cases hkl : k < s.size
       ·exact .inl ⟨hkl, by simpa [Lx.isNm] using hend hkl⟩
       ·exact .inr (by omega)) with ⟨hkl, hdk, hdk2⟩ | hkl
      all_goals
       clear hend
       by_cases hlong : k - j ≤ 20
       ·have hl2 : (k : Int) - j ≤ 20 := by omega
        go_wp2_with (first | (go_at_call 38; refine (digit_any _ _).mono ?_; rintro e w' ⟨rfl, rfl⟩) | (go_at_call 40; refine (letter_any _ _).mono ?_; rintro e w' ⟨rfl, rfl⟩) | fail)
        refine (isWord_any (s.extract j k) _).mono ?_; rintro e w2 ⟨rfl, hb⟩; obtain ⟨hc, hf⟩ := bcell hb; have HB := hid (below_two hb); have HC := hid (two_cells hb); have hz : w.heap.size + 1 < w2.heap.size := by have := hb.size; simp at this; omega
        clear hb
        cases hwd : Lx.isWd (s.extract j k).data.toList with
        | true =>
         have HW := hid hwd; clear hwd
         go_wp2
         refine bodyPost_ret (v := .tuple #[.agg #[.int .i64 3, .int .i64 j, .string (s.extract j k), .int .i64 0], .int .i64 k, .agg #[.int .i64 0, .int .i64 0]]) (by have h0 := HC.out.1; have h1 := HC.out.2.1; have h2 := HC.out.2.2.1; have h3 := HC.out.2.2.2.1; have h4 := HC.out.2.2.2.2.1; have h5 := HC.out.2.2.2.2.2; simp [results, Try.results14, go_sem, h0, h1, h2, h3, h4, h5]) rfl (next_ok (k := k) HP.out hlt (HT.out.1 (by rw [HL.out, HS.out]; omega)) (by rw [HL.out, HS.out]; omega) (by rw [HW.out]; rfl) (below_six HB.out _ _ _ _ _ _))
        | false =>
         have HW := hid hwd; clear hwd
         go_wp2
         refine bodyPost_ret (v := .tuple #[.agg #[.int .i64 2, .int .i64 j, .string (s.extract j k), .int .i64 0], .int .i64 k, .agg #[.int .i64 0, .int .i64 0]]) (by have h0 := HC.out.1; have h1 := HC.out.2.1; have h2 := HC.out.2.2.1; have h3 := HC.out.2.2.2.1; have h4 := HC.out.2.2.2.2.1; have h5 := HC.out.2.2.2.2.2; simp [results, Try.results14, go_sem, h0, h1, h2, h3, h4, h5]) rfl (next_ok (k := k) HP.out hlt (HT.out.1 (by rw [HL.out, HS.out]; omega)) (by rw [HL.out, HS.out]; omega) (by rw [HW.out]; rfl) (below_six HB.out _ _ _ _ _ _))
       ·have hl2 : (20 : Int) < (k : Int) - j := by omega
        go_wp2_with (first | (go_at_call 38; refine (digit_any _ _).mono ?_; rintro e w' ⟨rfl, rfl⟩) | (go_at_call 40; refine (letter_any _ _).mono ?_; rintro e w' ⟨rfl, rfl⟩) | fail)
        refine bodyPost_ret (v := .tuple #[tkVal ⟨0, 0, [], 0⟩, .int .i64 0, fltVal 3 j]) (by simp [results, Try.results14, go_sem, tkVal, fltVal]) rfl (next_err HP.out hlt (HT.out.2 (by rw [HL.out, HS.out]; omega)) rfl (((Below.refl _ _).alloc (Nat.le_refl _) _).alloc (by simp) _))
   | false =>
    go_wp2_with (first | (go_at_call 38; refine (digit_any _ _).mono ?_; rintro e w' ⟨rfl, rfl⟩) | (go_at_call 40; refine (letter_any _ _).mono ?_; rintro e w' ⟨rfl, rfl⟩) | fail)
    refine (signs_any _).mono ?_; rintro e w2 ⟨rfl, hrow, hb⟩; obtain ⟨hc, hf⟩ := bcell hb; have HB := hid (below_two hb); have HC := hid (two_cells hb); have hz : w.heap.size + 1 < w2.heap.size := by have := hb.size; simp at this; omega
    have HR := hid (show StrRow w2 (w.heap.size + 1 + 1) signList by simpa using hrow); clear hb hrow
    go_wp2_with fail
    go_loopw [12] (fun t wr => ∃ k nq : Nat, t = .int .i64 k ∧ k ≤ 20 ∧ wr = w2.drewN nq ∧ Hid (∀ q, q < k → ¬ Begins (s.data.toList.drop j) q)) (fun t _ => 20 - (intOf t).toNat)
    case atStart => exact ⟨0, 0, rfl, by omega, rfl, hid (fun q hq => absurd hq (by omega))⟩
    case round =>
     obtain ⟨k, nq, rfl, hk, rfl, H⟩ := hrel
     by_cases hlt2 : k < 20
     ·have hrk := HR.out k hlt2
      obtain ⟨x, hx⟩ : ∃ x, x = signList.getD k [] := ⟨_, rfl⟩; rw [← hx] at hrk; have hxl : x.length ≤ 2 := by have := sign_lens k hlt2; rw [hx, this]; split <;> omega
      have HX := hid hx; clear hx
      by_cases hfit : j + x.length ≤ s.size
      ·have hfi : (j : Int) + x.length ≤ s.size := by omega
       have HXL := hid (extract_list s j (j + x.length))
       go_wp2_with fail
       go_quiet (fail)
       go_wp2
       ·have hq : ((s.extract j (j + x.length)).toList == x) = true := by assumption
        have HQ := hid (begins_of HXL.out HX.out hq); refine bodyPost_ret (v := .tuple #[.agg #[.int .i64 4, .int .i64 j, .string ⟨x.toArray⟩, .int .i64 0], .int .i64 ((j : Int) + x.length), .agg #[.int .i64 0, .int .i64 0]]) (by have h0 := HC.out.1; have h1 := HC.out.2.1; have h2 := HC.out.2.2.1; have h3 := HC.out.2.2.2.1; have h4 := HC.out.2.2.2.2.1; have h5 := HC.out.2.2.2.2.2; simp [results, Try.results14, go_sem, h0, h1, h2, h3, h4, h5]) rfl (next_ok (k := j + x.length) HP.out hlt (sign_hit_at hlt hdg hlg hlt2 HQ.out H.out) (by rw [HX.out]) (by rw [← HX.out]; rfl) (below_six (below_drewN HB.out _) _ _ _ _ _ _))
       ·have hq : ((s.extract j (j + x.length)).toList == x) = false := by assumption
        have HQ := hid (begins_not HXL.out HX.out hq)
        go_roundw
        case rel =>
         refine ⟨k + 1, _, by go_num, by omega, rfl, hid ?_⟩; intro q hqk
         by_cases e : q = k
         ·subst e; exact HQ.out
         ·exact H.out q (by omega)
        case measure => simp [intOf]; omega
      ·have hfi : decide ((j : Int) + x.length ≤ s.size) = false := by simp; omega
       have HQ := hid (begins_short hj HX.out hfit)
       go_wp2_with fail
       go_quiet (fail)
       go_wp2
       go_roundw
       case rel =>
        refine ⟨k + 1, _, by go_num, by omega, rfl, hid ?_⟩; intro q hqk
        by_cases e : q = k
        ·subst e; exact HQ.out
        ·exact H.out q (by omega)
       case measure => simp [intOf]; omega
     ·have hk20 : k = 20 := by omega
      go_wp2
      refine bodyPost_ret (v := .tuple #[.agg #[.int .i64 0, .int .i64 0, .string ⟨#[]⟩, .int .i64 0], .int .i64 0, .agg #[.int .i64 2, .int .i64 j]]) (by have h0 := HC.out.1; have h1 := HC.out.2.1; have h2 := HC.out.2.2.1; have h3 := HC.out.2.2.2.1; have h4 := HC.out.2.2.2.2.1; have h5 := HC.out.2.2.2.2.2; simp [results, Try.results14, go_sem, h0, h1, h2, h3, h4, h5]) rfl (next_err HP.out hlt (sign_miss_at hlt hdg hlg (fun q hq => H.out q (by omega))) rfl (below_six (below_drewN HB.out _) _ _ _ _ _ _))
 ·have hje : j = s.size := by omega
  subst hje
  go_wp2
  refine bodyPost_ret (v := .tuple #[tkVal ⟨0, s.size, [], 0⟩, .int .i64 s.size, fltVal 0 0]) (by simp [results, Try.results14, go_sem, tkVal, fltVal]) rfl ⟨((Below.refl _ _).alloc (Nat.le_refl _) _).alloc (by simp) _, s.size, HP.out, .inl ⟨rfl, rfl⟩⟩
end Go.Proofs.Ytejciampbnfbhaa
