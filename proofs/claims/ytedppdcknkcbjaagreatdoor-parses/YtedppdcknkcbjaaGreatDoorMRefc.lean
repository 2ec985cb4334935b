/-
  What the document's Next answers, for every text of at most 3000 bytes and every place in it.
-/
import Derived.Test.YtedppdcknkcbjaaGreatDoorMRef
import Derived.BigQuiet
import Derived.WalkSmall
import Derived.Deep.QuietTactic
set_option linter.unusedVariables false
set_option linter.unusedSimpArgs false
namespace Go.Proofs.YtedppdcknkcbjaaGreatDoor
open Go.RowKit

theorem bcell {B : Nat} {W w1 : World} (hb : Below B W w1) : (∀ b o, b < B → w1.cell? ⟨b, o, none⟩ = W.cell? ⟨b, o, none⟩) ∧ (∀ b o, b < B → w1.frozen? ⟨b, o, none⟩ = W.frozen? ⟨b, o, none⟩) :=
  ⟨fun b o h => hb.cell (p := ⟨b, o, none⟩) h, fun b o h => hb.frozen (p := ⟨b, o, none⟩) h⟩

theorem takeWhile_take {p : UInt8 → Bool} : ∀ (l : List UInt8) (n : Nat), n ≤ l.length → (∀ i (h : i < l.length), i < n → p l[i] = true) → (∀ h : n < l.length, p l[n] = false) → l.takeWhile p = l.take n := by
  intro l
  induction l with
  | nil => intro n; simp
  | cons c r ih =>
    intro n hn hall hend
    cases n with
    | zero =>
      have := hend (by simp)
      simp at this
      simp [this]
    | succ n =>
      have hc : p c = true := hall 0 (by simp) (by omega)
      simp only [List.takeWhile_cons, hc, if_true, List.take_succ_cons]
      rw [ih n (by simpa using hn) (fun i h hi => by have := hall (i + 1) (by simpa using h) (by omega); simpa using this) (fun h => by have := hend (by simpa using h); simpa using this)]

theorem drop_get (s : ByteArray) (j i : Nat) (h : j + i < s.size) : ∃ h2 : i < (s.data.toList.drop j).length, (s.data.toList.drop j)[i] = s[j + i] := by
  refine ⟨by simp; omega, ?_⟩
  rw [List.getElem_drop]; rfl

/-- A run of bytes that a test holds of, from place j up to place k, and no further. -/
theorem run_take {p : UInt8 → Bool} (s : ByteArray) (j k : Nat) (hjk : j ≤ k) (hk : k ≤ s.size) (hall : ∀ q (h : q < s.size), j ≤ q → q < k → p s[q] = true) (hend : ∀ h : k < s.size, p s[k] = false) :
    (s.data.toList.drop j).takeWhile p = (s.data.toList.drop j).take (k - j) := by
  apply takeWhile_take
  · simp; omega
  · intro i h hi
    have hsz : j + i < s.size := by omega
    obtain ⟨h2, e⟩ := drop_get s j i hsz
    rw [e]
    exact hall (j + i) hsz (by omega) (by omega)
  · intro h
    have hsz : k < s.size := by simp at h; omega
    obtain ⟨h2, e⟩ := drop_get s j (k - j) (by omega)
    have e2 : s[j + (k - j)]'(by omega) = s[k] := by congr 1; omega
    rw [e, e2]
    exact hend hsz

def tkVal (t : Lx.Tk) : Value := .agg #[.int .i64 t.kind, .int .i64 t.pos, .string ⟨t.text.toArray⟩, .int .i64 t.num]
def fltVal (k p : Nat) : Value := .agg #[.int .i64 k, .int .i64 p]

def NextPost (s : ByteArray) (i : Nat) (w : World) (e : Ending) (w' : World) : Prop :=
  Below w.heap.size w w' ∧ ∃ j, PassTo s i j ∧
    ((j = s.size ∧ e = .returned (.tuple #[tkVal ⟨0, s.size, [], 0⟩, .int .i64 s.size, fltVal 0 0])) ∨
     (j < s.size ∧ ∃ t n, Lx.tokAt j (s.data.toList.drop j) = .ok (t, n) ∧ e = .returned (.tuple #[tkVal t, .int .i64 (j + n : Nat), fltVal 0 0])) ∨
     (j < s.size ∧ ∃ k p, Lx.tokAt j (s.data.toList.drop j) = .error (k, p) ∧ e = .returned (.tuple #[tkVal ⟨0, 0, [], 0⟩, .int .i64 0, fltVal k p])))

theorem isDig_iff (c : UInt8) : Lx.isDig c = true ↔ 48 ≤ c.toNat ∧ c.toNat ≤ 57 := by simp [Lx.isDig]

theorem extract_list (s : ByteArray) (j k : Nat) : (s.extract j k).data.toList = (s.data.toList.drop j).take (k - j) := by simp
theorem extract_size (s : ByteArray) (j k : Nat) (hk : k ≤ s.size) : (s.extract j k).size = k - j := by rw [ByteArray.size_extract]; omega
theorem extract_get (s : ByteArray) (j k q : Nat) (hk : k ≤ s.size) (h : q < (s.extract j k).size) : ∃ h2 : j + q < s.size, (s.extract j k)[q] = s[j + q] := by
  have := extract_size s j k hk
  exact ⟨by omega, ByteArray.getElem_extract h⟩

theorem num_tok {s : ByteArray} {j : Nat} (hlt : j < s.size) (hdg : Lx.isDig s[j] = true) {l : List UInt8} (hl : (s.data.toList.drop j).takeWhile Lx.isDig = l) :
    (Lx.okNum l = true → Lx.tokAt j (s.data.toList.drop j) = .ok (⟨1, j, [], Lx.numVal l⟩, l.length)) ∧ (Lx.okNum l = false → Lx.tokAt j (s.data.toList.drop j) = .error (3, j)) := by
  rw [drop_cons s j hlt] at hl ⊢
  rw [Lx.tokAt_dig _ _ _ hdg, hl]
  constructor
  · intro h; rw [if_pos h]
  · intro h; rw [if_neg (by simp [h])]

theorem name_tok {s : ByteArray} {j : Nat} (hlt : j < s.size) (h0 : Lx.isDig s[j] = false) (h1 : Lx.isLet s[j] = true) {l : List UInt8} (hl : (s.data.toList.drop j).takeWhile Lx.isNm = l) :
    (l.length ≤ 20 → Lx.tokAt j (s.data.toList.drop j) = .ok (⟨if Lx.isWd l then 3 else 2, j, l, 0⟩, l.length)) ∧ (20 < l.length → Lx.tokAt j (s.data.toList.drop j) = .error (3, j)) := by
  rw [drop_cons s j hlt] at hl ⊢
  rw [Lx.tokAt_let _ _ _ h0 h1, hl]
  constructor
  · intro h; rw [if_pos h]
  · intro h; rw [if_neg (by omega)]

theorem next_ok {s : ByteArray} {i j : Nat} {w w' : World} {e : Ending} (HP : PassTo s i j) (hlt : j < s.size) {t : Lx.Tk} {n k : Nat} (h : Lx.tokAt j (s.data.toList.drop j) = .ok (t, n)) (hk : k = j + n)
    (he : e = .returned (.tuple #[tkVal t, .int .i64 k, fltVal 0 0])) (hb : Below w.heap.size w w') : NextPost s i w e w' :=
  ⟨hb, j, HP, .inr (.inl ⟨hlt, t, n, h, by rw [he, hk]⟩)⟩
theorem next_err {s : ByteArray} {i j : Nat} {w w' : World} {e : Ending} (HP : PassTo s i j) (hlt : j < s.size) {k p : Nat} (h : Lx.tokAt j (s.data.toList.drop j) = .error (k, p))
    (he : e = .returned (.tuple #[tkVal ⟨0, 0, [], 0⟩, .int .i64 0, fltVal k p])) (hb : Below w.heap.size w w') : NextPost s i w e w' :=
  ⟨hb, j, HP, .inr (.inr ⟨hlt, k, p, h, he⟩)⟩

theorem below_two {w w2 : World} {o1 o2 : Obj} (hb : Below ((w.alloc o1).alloc o2).heap.size ((w.alloc o1).alloc o2) w2) : Below w.heap.size w w2 :=
  (((Below.refl _ _).alloc (Nat.le_refl _) _).alloc (by simp) _).trans (hb.mono (by simp; omega))
theorem below_six {w w2 : World} (hb : Below w.heap.size w w2) (v0 v1 v2 v3 v4 v5 : Value) :
    Below w.heap.size w ((((((w2.setCell ⟨w.heap.size, 0, none⟩ v0).setCell ⟨w.heap.size, 1, none⟩ v1).setCell ⟨w.heap.size, 2, none⟩ v2).setCell ⟨w.heap.size, 3, none⟩ v3).setCell ⟨w.heap.size + 1, 0, none⟩ v4).setCell ⟨w.heap.size + 1, 1, none⟩ v5) :=
  (((((hb.setCell (Nat.le_refl _) _).setCell (Nat.le_refl _) _).setCell (Nat.le_refl _) _).setCell (Nat.le_refl _) _).setCell (Nat.le_succ _) _).setCell (Nat.le_succ _) _

theorem two_cells {w w2 : World} {a0 a1 a2 a3 b0 b1 : Value} {e1 e2 : TypeId} (hb : Below ((w.alloc (.cells #[a0, a1, a2, a3] e1)).alloc (.cells #[b0, b1] e2)).heap.size ((w.alloc (.cells #[a0, a1, a2, a3] e1)).alloc (.cells #[b0, b1] e2)) w2) :
    w2.cell? ⟨w.heap.size, 0, none⟩ = some a0 ∧ w2.cell? ⟨w.heap.size, 1, none⟩ = some a1 ∧ w2.cell? ⟨w.heap.size, 2, none⟩ = some a2 ∧ w2.cell? ⟨w.heap.size, 3, none⟩ = some a3 ∧ w2.cell? ⟨w.heap.size + 1, 0, none⟩ = some b0 ∧ w2.cell? ⟨w.heap.size + 1, 1, none⟩ = some b1 := by
  obtain ⟨hc, _⟩ := bcell hb
  refine ⟨(hc _ _ (by simp; omega)).trans (by simp), (hc _ _ (by simp; omega)).trans (by simp), (hc _ _ (by simp; omega)).trans (by simp), (hc _ _ (by simp; omega)).trans (by simp), (hc _ _ (by simp)).trans (by simp), (hc _ _ (by simp)).trans (by simp)⟩

theorem begins_of {s : ByteArray} {j k : Nat} {x : List UInt8} (hl : (s.extract j (j + x.length)).data.toList = (s.data.toList.drop j).take (j + x.length - j)) (hx : x = signList.getD k []) (h : ((s.extract j (j + x.length)).toList == x) = true) : Begins (s.data.toList.drop j) k := by
  have h2 := eq_of_beq h
  rw [← toList_data, hl, Nat.add_sub_cancel_left] at h2
  unfold Begins
  rw [← hx]
  exact h2
theorem begins_not {s : ByteArray} {j k : Nat} {x : List UInt8} (hl : (s.extract j (j + x.length)).data.toList = (s.data.toList.drop j).take (j + x.length - j)) (hx : x = signList.getD k []) (h : ((s.extract j (j + x.length)).toList == x) = false) : ¬ Begins (s.data.toList.drop j) k := by
  have h2 := beq_eq_false_iff_ne.1 h
  rw [← toList_data, hl, Nat.add_sub_cancel_left] at h2
  unfold Begins
  rw [← hx]
  exact h2
theorem begins_short {s : ByteArray} {j k : Nat} {x : List UInt8} (hj : j ≤ s.size) (hx : x = signList.getD k []) (h : ¬ j + x.length ≤ s.size) : ¬ Begins (s.data.toList.drop j) k := by
  unfold Begins
  rw [← hx]
  intro e
  have := congrArg List.length e
  simp at this
  omega
theorem sign_hit_at {s : ByteArray} {j k : Nat} (hlt : j < s.size) (h0 : Lx.isDig s[j] = false) (h1 : Lx.isLet s[j] = false) (hk : k < 20) (hm : Begins (s.data.toList.drop j) k) (hn : ∀ q, q < k → ¬ Begins (s.data.toList.drop j) q) :
    Lx.tokAt j (s.data.toList.drop j) = .ok (⟨4, j, signList.getD k [], 0⟩, (signList.getD k []).length) := by
  rw [drop_cons s j hlt] at hm hn ⊢
  exact sign_hit j h0 h1 hk hm hn
theorem sign_miss_at {s : ByteArray} {j : Nat} (hlt : j < s.size) (h0 : Lx.isDig s[j] = false) (h1 : Lx.isLet s[j] = false) (hn : ∀ q, q < 20 → ¬ Begins (s.data.toList.drop j) q) :
    Lx.tokAt j (s.data.toList.drop j) = .error (2, j) := by
  rw [drop_cons s j hlt] at hn ⊢
  exact sign_miss j h0 h1 hn

set_option maxRecDepth 100000 in
set_option maxHeartbeats 2000000 in
theorem next_any (s : ByteArray) (i : Nat) (w : World) (hs : s.size ≤ 3000) (hi : i ≤ s.size) :
    Calls Tryz.prog 36 #[.string s, .int .i64 i] w fun e w' => NextPost s i w e w' := by
  go_enter Tryz.func36, Tryz.ntmps36
  go_wp2_with fail
  refine (pass_any s i _ hs hi).mono ?_
  rintro e w1 ⟨j, rfl, HP0, rfl⟩
  have HP : Hid (PassTo s i j) := HP0
  have hj := HP0.2.1
  clear HP0
  by_cases hlt : j < s.size
  · cases hdg : Lx.isDig s[j] with
    | true =>
      go_wp2_with (go_at_call 72; refine (digit_any _ _).mono ?_; rintro e w' ⟨rfl, rfl⟩)
      go_loop [7] (fun t => ∃ k : Nat, t = .int .i64 k ∧ j ≤ k ∧ k ≤ s.size ∧ Hid (∀ q (h : q < s.size), j ≤ q → q < k → Lx.isDig s[q] = true)) (fun t => s.size - (intOf t).toNat)
      case atStart => exact ⟨j, rfl, Nat.le_refl _, hj, hid (fun q h h1 h2 => absurd h2 (by omega))⟩
      case round =>
        obtain ⟨k, rfl, hjk, hk, H⟩ := hrel
        by_cases hgo : ∃ h : k < s.size, Lx.isDig s[k] = true
        · obtain ⟨hkl, hdk⟩ := hgo
          go_wp2_with (go_at_call 72; refine (digit_any _ _).mono ?_; rintro e w' ⟨rfl, rfl⟩)
          go_round
          case rel =>
            refine ⟨k + 1, by go_num, by omega, by omega, hid ?_⟩
            intro q h h1 h2
            by_cases hqk : q = k
            · subst hqk; exact hdk
            · exact H.out q h h1 (by omega)
          case measure => simp [intOf]; omega
        · have hend : ∀ h : k < s.size, Lx.isDig s[k] = false := fun h => by
            cases hq : Lx.isDig s[k] with
            | false => rfl
            | true => exact absurd ⟨h, hq⟩ hgo
          have HT := hid (num_tok hlt hdg ((run_take s j k hjk hk H.out hend).trans (extract_list s j k).symm))
          have hne : j < k := by
            by_cases e : j = k
            · subst e
              rw [hend hlt] at hdg
              cases hdg
            · omega
          have HL := hid (size_len (s.extract j k))
          have HS := hid (extract_size s j k hk)
          have HD : Hid (∀ q (h : q < (s.extract j k).size), 48 ≤ ((s.extract j k)[q]).toNat ∧ ((s.extract j k)[q]).toNat ≤ 57) := by
            intro q h
            obtain ⟨h2, e⟩ := extract_get s j k q hk h
            rw [e]
            have := extract_size s j k hk
            exact (isDig_iff _).1 (H.out (j + q) h2 (by omega) (by omega))
          clear hgo
          rcases (show (∃ h : k < s.size, Lx.isDig s[k] = false) ∨ s.size ≤ k from by
            by_cases hkl : k < s.size
            · exact .inl ⟨hkl, hend hkl⟩
            · exact .inr (by omega)) with ⟨hkl, hdk⟩ | hkl
          all_goals
            clear hend
            go_wp2_with (first | (go_at_call 72; refine (digit_any _ _).mono ?_; rintro e w' ⟨rfl, rfl⟩) | fail)
            refine (rnumber_any (s.extract j k) _ (by rw [HS.out]; omega) (by rw [HS.out]; omega) HD.out).mono ?_
            rintro e w2 ⟨n, ok, rfl, hok, hn, rfl⟩
            cases ok with
            | true =>
              have HN := hid (hn rfl)
              have HO := hid hok
              clear hn hok
              go_wp2
              refine bodyPost_ret (v := .tuple #[.agg #[.int .i64 1, .int .i64 j, .string ⟨#[]⟩, .int .i64 n], .int .i64 k, .agg #[.int .i64 0, .int .i64 0]]) (by simp [results, Tryz.results36, go_sem]) rfl (next_ok (k := k) HP.out hlt (HT.out.1 HO.out.symm) (by rw [HL.out, HS.out]; omega) (by rw [HN.out]; rfl) (((Below.refl _ _).alloc (Nat.le_refl _) _).alloc (by simp) _))
            | false =>
              have HO := hid hok
              clear hn hok
              go_wp2
              refine bodyPost_ret (v := .tuple #[tkVal ⟨0, 0, [], 0⟩, .int .i64 0, fltVal 3 j]) (by simp [results, Tryz.results36, go_sem, tkVal, fltVal]) rfl (next_err HP.out hlt (HT.out.2 HO.out.symm) rfl (((Below.refl _ _).alloc (Nat.le_refl _) _).alloc (by simp) _))
    | false =>
      cases hlg : Lx.isLet s[j] with
      | true =>
        go_wp2_with (first | (go_at_call 72; refine (digit_any _ _).mono ?_; rintro e w' ⟨rfl, rfl⟩) | (go_at_call 74; refine (letter_any _ _).mono ?_; rintro e w' ⟨rfl, rfl⟩))
        go_loop [7] (fun t => ∃ k : Nat, t = .int .i64 k ∧ j ≤ k ∧ k ≤ s.size ∧ Hid (∀ q (h : q < s.size), j ≤ q → q < k → Lx.isNm s[q] = true)) (fun t => s.size - (intOf t).toNat)
        case atStart => exact ⟨j, rfl, Nat.le_refl _, hj, hid (fun q h h1 h2 => absurd h2 (by omega))⟩
        case round =>
          obtain ⟨k, rfl, hjk, hk, H⟩ := hrel
          by_cases hgo : ∃ h : k < s.size, Lx.isNm s[k] = true
          · obtain ⟨hkl, hdk⟩ := hgo
            have HDK := hid hdk
            rcases (show Lx.isLet s[k] = true ∨ (Lx.isLet s[k] = false ∧ Lx.isDig s[k] = true) from by
              cases hq : Lx.isLet s[k] with
              | true => exact .inl rfl
              | false => exact .inr ⟨rfl, by simpa [Lx.isNm, hq] using hdk⟩) with hq | ⟨hq, hq2⟩
            all_goals
              clear hdk
              go_wp2_with (first | (go_at_call 72; refine (digit_any _ _).mono ?_; rintro e w' ⟨rfl, rfl⟩) | (go_at_call 74; refine (letter_any _ _).mono ?_; rintro e w' ⟨rfl, rfl⟩))
              go_round
              case rel =>
                refine ⟨k + 1, by go_num, by omega, by omega, hid ?_⟩
                intro q h h1 h2
                by_cases hqk : q = k
                · subst hqk; exact HDK.out
                · exact H.out q h h1 (by omega)
              case measure => simp [intOf]; omega
          · have hend : ∀ h : k < s.size, Lx.isNm s[k] = false := fun h => by
              cases hq : Lx.isNm s[k] with
              | false => rfl
              | true => exact absurd ⟨h, hq⟩ hgo
            have HT := hid (name_tok hlt hdg hlg ((run_take s j k hjk hk H.out hend).trans (extract_list s j k).symm))
            have HL := hid (size_len (s.extract j k))
            have HS := hid (extract_size s j k hk)
            clear hgo
            rcases (show (∃ h : k < s.size, Lx.isLet s[k] = false ∧ Lx.isDig s[k] = false) ∨ s.size ≤ k from by
              by_cases hkl : k < s.size
              · exact .inl ⟨hkl, by simpa [Lx.isNm] using hend hkl⟩
              · exact .inr (by omega)) with ⟨hkl, hdk, hdk2⟩ | hkl
            all_goals
              clear hend
              by_cases hlong : k - j ≤ 20
              · have hl2 : (k : Int) - j ≤ 20 := by omega
                go_wp2_with (first | (go_at_call 72; refine (digit_any _ _).mono ?_; rintro e w' ⟨rfl, rfl⟩) | (go_at_call 74; refine (letter_any _ _).mono ?_; rintro e w' ⟨rfl, rfl⟩) | fail)
                refine (isWord_any (s.extract j k) _).mono ?_
                rintro e w2 ⟨rfl, hb⟩
                obtain ⟨hc, hf⟩ := bcell hb
                have HB := hid (below_two hb)
                have HC := hid (two_cells hb)
                have hz : w.heap.size + 1 < w2.heap.size := by have := hb.size; simp at this; omega
                clear hb
                cases hwd : Lx.isWd (s.extract j k).data.toList with
                | true =>
                  have HW := hid hwd
                  clear hwd
                  go_wp2
                  refine bodyPost_ret (v := .tuple #[.agg #[.int .i64 3, .int .i64 j, .string (s.extract j k), .int .i64 0], .int .i64 k, .agg #[.int .i64 0, .int .i64 0]]) (by have h0 := HC.out.1; have h1 := HC.out.2.1; have h2 := HC.out.2.2.1; have h3 := HC.out.2.2.2.1; have h4 := HC.out.2.2.2.2.1; have h5 := HC.out.2.2.2.2.2; simp [results, Tryz.results36, go_sem, h0, h1, h2, h3, h4, h5]) rfl (next_ok (k := k) HP.out hlt (HT.out.1 (by rw [HL.out, HS.out]; omega)) (by rw [HL.out, HS.out]; omega) (by rw [HW.out]; rfl) (below_six HB.out _ _ _ _ _ _))
                | false =>
                  have HW := hid hwd
                  clear hwd
                  go_wp2
                  refine bodyPost_ret (v := .tuple #[.agg #[.int .i64 2, .int .i64 j, .string (s.extract j k), .int .i64 0], .int .i64 k, .agg #[.int .i64 0, .int .i64 0]]) (by have h0 := HC.out.1; have h1 := HC.out.2.1; have h2 := HC.out.2.2.1; have h3 := HC.out.2.2.2.1; have h4 := HC.out.2.2.2.2.1; have h5 := HC.out.2.2.2.2.2; simp [results, Tryz.results36, go_sem, h0, h1, h2, h3, h4, h5]) rfl (next_ok (k := k) HP.out hlt (HT.out.1 (by rw [HL.out, HS.out]; omega)) (by rw [HL.out, HS.out]; omega) (by rw [HW.out]; rfl) (below_six HB.out _ _ _ _ _ _))
              · have hl2 : (20 : Int) < (k : Int) - j := by omega
                go_wp2_with (first | (go_at_call 72; refine (digit_any _ _).mono ?_; rintro e w' ⟨rfl, rfl⟩) | (go_at_call 74; refine (letter_any _ _).mono ?_; rintro e w' ⟨rfl, rfl⟩) | fail)
                refine bodyPost_ret (v := .tuple #[tkVal ⟨0, 0, [], 0⟩, .int .i64 0, fltVal 3 j]) (by simp [results, Tryz.results36, go_sem, tkVal, fltVal]) rfl (next_err HP.out hlt (HT.out.2 (by rw [HL.out, HS.out]; omega)) rfl (((Below.refl _ _).alloc (Nat.le_refl _) _).alloc (by simp) _))
      | false =>
        go_wp2_with (first | (go_at_call 72; refine (digit_any _ _).mono ?_; rintro e w' ⟨rfl, rfl⟩) | (go_at_call 74; refine (letter_any _ _).mono ?_; rintro e w' ⟨rfl, rfl⟩) | fail)
        refine (signs_any _).mono ?_
        rintro e w2 ⟨rfl, hrow, hb⟩
        obtain ⟨hc, hf⟩ := bcell hb
        have HB := hid (below_two hb)
        have HC := hid (two_cells hb)
        have hz : w.heap.size + 1 < w2.heap.size := by have := hb.size; simp at this; omega
        have HR := hid (show StrRow w2 (w.heap.size + 1 + 1) signList by simpa using hrow)
        clear hb hrow
        go_wp2_with fail
        go_loopw [12] (fun t wr => ∃ k nq : Nat, t = .int .i64 k ∧ k ≤ 20 ∧ wr = w2.drewN nq ∧ Hid (∀ q, q < k → ¬ Begins (s.data.toList.drop j) q)) (fun t _ => 20 - (intOf t).toNat)
        case atStart => exact ⟨0, 0, rfl, by omega, rfl, hid (fun q hq => absurd hq (by omega))⟩
        case round =>
          obtain ⟨k, nq, rfl, hk, rfl, H⟩ := hrel
          by_cases hlt2 : k < 20
          · have hrk := HR.out k hlt2
            obtain ⟨x, hx⟩ : ∃ x, x = signList.getD k [] := ⟨_, rfl⟩
            rw [← hx] at hrk
            have hxl : x.length ≤ 2 := by have := sign_lens k hlt2; rw [hx, this]; split <;> omega
            have HX := hid hx
            clear hx
            by_cases hfit : j + x.length ≤ s.size
            · have hfi : (j : Int) + x.length ≤ s.size := by omega
              have HXL := hid (extract_list s j (j + x.length))
              go_wp2_with fail
              go_quiet (fail)
              go_wp2
              · have hq : ((s.extract j (j + x.length)).toList == x) = true := by assumption
                have HQ := hid (begins_of HXL.out HX.out hq)
                refine bodyPost_ret (v := .tuple #[.agg #[.int .i64 4, .int .i64 j, .string ⟨x.toArray⟩, .int .i64 0], .int .i64 ((j : Int) + x.length), .agg #[.int .i64 0, .int .i64 0]]) (by have h0 := HC.out.1; have h1 := HC.out.2.1; have h2 := HC.out.2.2.1; have h3 := HC.out.2.2.2.1; have h4 := HC.out.2.2.2.2.1; have h5 := HC.out.2.2.2.2.2; simp [results, Tryz.results36, go_sem, h0, h1, h2, h3, h4, h5]) rfl (next_ok (k := j + x.length) HP.out hlt (sign_hit_at hlt hdg hlg hlt2 HQ.out H.out) (by rw [HX.out]) (by rw [← HX.out]; rfl) (below_six (below_drewN HB.out _) _ _ _ _ _ _))
              · have hq : ((s.extract j (j + x.length)).toList == x) = false := by assumption
                have HQ := hid (begins_not HXL.out HX.out hq)
                go_roundw
                case rel =>
                  refine ⟨k + 1, _, by go_num, by omega, rfl, hid ?_⟩
                  intro q hqk
                  by_cases e : q = k
                  · subst e; exact HQ.out
                  · exact H.out q (by omega)
                case measure => simp [intOf]; omega
            · have hfi : decide ((j : Int) + x.length ≤ s.size) = false := by simp; omega
              have HQ := hid (begins_short hj HX.out hfit)
              go_wp2_with fail
              go_quiet (fail)
              go_wp2
              go_roundw
              case rel =>
                refine ⟨k + 1, _, by go_num, by omega, rfl, hid ?_⟩
                intro q hqk
                by_cases e : q = k
                · subst e; exact HQ.out
                · exact H.out q (by omega)
              case measure => simp [intOf]; omega
          · have hk20 : k = 20 := by omega
            go_wp2
            refine bodyPost_ret (v := .tuple #[.agg #[.int .i64 0, .int .i64 0, .string ⟨#[]⟩, .int .i64 0], .int .i64 0, .agg #[.int .i64 2, .int .i64 j]]) (by have h0 := HC.out.1; have h1 := HC.out.2.1; have h2 := HC.out.2.2.1; have h3 := HC.out.2.2.2.1; have h4 := HC.out.2.2.2.2.1; have h5 := HC.out.2.2.2.2.2; simp [results, Tryz.results36, go_sem, h0, h1, h2, h3, h4, h5]) rfl (next_err HP.out hlt (sign_miss_at hlt hdg hlg (fun q hq => H.out q (by omega))) rfl (below_six (below_drewN HB.out _) _ _ _ _ _ _))
  · have hje : j = s.size := by omega
    subst hje
    go_wp2
    refine bodyPost_ret (v := .tuple #[tkVal ⟨0, s.size, [], 0⟩, .int .i64 s.size, fltVal 0 0]) (by simp [results, Tryz.results36, go_sem, tkVal, fltVal]) rfl ⟨((Below.refl _ _).alloc (Nat.le_refl _) _).alloc (by simp) _, s.size, HP.out, .inl ⟨rfl, rfl⟩⟩
end Go.Proofs.YtedppdcknkcbjaaGreatDoor
