/-
  What the program's name and sign answer at the head of a text.
-/
import Derived.Test.YtkckmfnmdkfkaaaDoorLexE
namespace Go.Proofs.YtkckmfnmdkfkaaaDoor
open Go.RowKit

set_option maxRecDepth 100000 in
set_option maxHeartbeats 2000000 in
theorem lname_any (s : ByteArray) (w : World) (h0 : 0 < s.size) (hd : Lx.isDig s[0] = false) (hl : Lx.isLet s[0] = true) :
    Calls Tryd.prog 13 #[.string s] w fun e w' => LexPost s w e w' := by
  go_enter Tryd.func13, Tryd.ntmps13
  go_wp2_with fail
  refine (span_any s true _).mono ?_
  rintro e w1 ⟨k, rfl, hsp, hb⟩
  have hk := hsp.1
  have hkl : s.data.toList.takeWhile Lx.isNm = (s.extract 0 k).data.toList := by rw [extract0_list, ← hsp.2, spanP_true]
  have HT := hid (head_name h0 hd hl hkl)
  have HS := hid (extract_size s 0 k hk)
  have HL := hid (size_len (s.extract 0 k))
  obtain ⟨⟨c0, c1, c2, c3⟩, f0, f1, f2, f3⟩ := four_cells hb
  have HB := hid (below_one hb)
  have hlt1 : w.heap.size < w1.heap.size := by have := hb.size; simp at this; omega
  clear hsp hkl hb hd hl
  by_cases hlong : 20 < k
  · go_wp2_with fail
    refine bodyPost_ret (v := .tuple #[.agg #[.int .i64 0, .int .i64 0, .string ⟨#[]⟩, .int .i64 0], .int .i64 0]) (by simp [results, Tryd.results13, go_sem, c0, c1, c2, c3]) rfl (lex_no (HT.out.2 (by rw [HL.out, HS.out]; omega)) rfl (below_four HB.out _ _ _ _))
  · cases hw : Lx.isWd (s.extract 0 k).data.toList with
    | true =>
      go_wp2_with (first
        | (go_at_call 20; refine (lisWord_any _ _).mono ?_; rintro e w2 ⟨rfl, rfl⟩; rw [hw])
        | (go_at_call 21; refine (textToken_any _ _ _ (by rw [HS.out]; omega)).mono ?_; rintro e w3 ⟨rfl, hb3⟩; have d0 := (hb3.cell (p := ⟨w.heap.size, 0, none⟩) hlt1).trans c0; have d1 := (hb3.cell (p := ⟨w.heap.size, 1, none⟩) hlt1).trans c1; have d2 := (hb3.cell (p := ⟨w.heap.size, 2, none⟩) hlt1).trans c2; have d3 := (hb3.cell (p := ⟨w.heap.size, 3, none⟩) hlt1).trans c3; have g0 := (hb3.frozen (p := ⟨w.heap.size, 0, none⟩) hlt1).trans f0; have g1 := (hb3.frozen (p := ⟨w.heap.size, 1, none⟩) hlt1).trans f1; have g2 := (hb3.frozen (p := ⟨w.heap.size, 2, none⟩) hlt1).trans f2; have g3 := (hb3.frozen (p := ⟨w.heap.size, 3, none⟩) hlt1).trans f3; have HB3 := hid (HB.out.trans (hb3.mono (Nat.le_of_lt hlt1))); clear hb3))
      refine bodyPost_ret (v := .tuple #[.agg #[.int .i64 3, .int .i64 0, .string (s.extract 0 k), .int .i64 0], .int .i64 k]) (by simp [results, Tryd.results13, go_sem, d0, d1, d2, d3]) rfl (lex_ok (n := k) (by rw [HT.out.1 (by rw [HL.out, HS.out]; omega), HL.out, HS.out, Nat.sub_zero]) (by rw [hw]; rfl) (below_four HB3.out _ _ _ _))
    | false =>
      go_wp2_with (first
        | (go_at_call 20; refine (lisWord_any _ _).mono ?_; rintro e w2 ⟨rfl, rfl⟩; rw [hw])
        | (go_at_call 21; refine (textToken_any _ _ _ (by rw [HS.out]; omega)).mono ?_; rintro e w3 ⟨rfl, hb3⟩; have d0 := (hb3.cell (p := ⟨w.heap.size, 0, none⟩) hlt1).trans c0; have d1 := (hb3.cell (p := ⟨w.heap.size, 1, none⟩) hlt1).trans c1; have d2 := (hb3.cell (p := ⟨w.heap.size, 2, none⟩) hlt1).trans c2; have d3 := (hb3.cell (p := ⟨w.heap.size, 3, none⟩) hlt1).trans c3; have g0 := (hb3.frozen (p := ⟨w.heap.size, 0, none⟩) hlt1).trans f0; have g1 := (hb3.frozen (p := ⟨w.heap.size, 1, none⟩) hlt1).trans f1; have g2 := (hb3.frozen (p := ⟨w.heap.size, 2, none⟩) hlt1).trans f2; have g3 := (hb3.frozen (p := ⟨w.heap.size, 3, none⟩) hlt1).trans f3; have HB3 := hid (HB.out.trans (hb3.mono (Nat.le_of_lt hlt1))); clear hb3))
      refine bodyPost_ret (v := .tuple #[.agg #[.int .i64 2, .int .i64 0, .string (s.extract 0 k), .int .i64 0], .int .i64 k]) (by simp [results, Tryd.results13, go_sem, d0, d1, d2, d3]) rfl (lex_ok (n := k) (by rw [HT.out.1 (by rw [HL.out, HS.out]; omega), HL.out, HS.out, Nat.sub_zero]) (by rw [hw]; rfl) (below_four HB3.out _ _ _ _))

theorem signLen_short {s : ByteArray} (h : s.size = 1) : Lx.signLen s.data.toList = 1 := by
  apply signLen_one
  intro q hq hb
  have hl := sign_lens q (by omega)
  rw [if_pos hq] at hl
  unfold Begins at hb
  have := congrArg List.length hb
  rw [hl] at this
  simp at this
  omega
theorem head_sign {s : ByteArray} (h0 : 0 < s.size) (hd : Lx.isDig s[0] = false) (hl : Lx.isLet s[0] = false) (hs : Lx.isSg s[0] = true) {n : Nat} (hn : Lx.signLen s.data.toList = n) :
    Lx.tokAt 0 s.data.toList = .ok (⟨4, 0, (s.extract 0 n).data.toList, 0⟩, n) := by
  have e := drop_cons s 0 h0
  rw [List.drop_zero] at e
  rw [extract0_list]
  rw [e] at hn ⊢
  rw [Lx.tokAt_sg 0 _ _ hd hl hs, hn]
theorem signLen_pair {s : ByteArray} {x : List UInt8} (hx : Lx.twos.contains x = true) (h : (s.extract 0 2).toList = x) : Lx.signLen s.data.toList = 2 := by
  rw [← toList_data, extract0_list] at h
  unfold Lx.signLen
  rw [h, if_pos hx]
theorem signLen_lone {s : ByteArray} (h1 : ((s.extract 0 2).toList == [58, 58]) = false) (h2 : ((s.extract 0 2).toList == [61, 61]) = false) (h3 : ((s.extract 0 2).toList == [61, 62]) = false) (h4 : ((s.extract 0 2).toList == [45, 62]) = false) : Lx.signLen s.data.toList = 1 := by
  rw [← toList_data, extract0_list] at h1 h2 h3 h4
  unfold Lx.signLen
  rw [if_neg]
  simp only [Lx.twos, List.contains_cons, List.contains_nil, h1, h2, h3, h4]
  decide

set_option maxRecDepth 100000 in
set_option maxHeartbeats 2000000 in
theorem lsign_any (s : ByteArray) (w : World) (hs : s.size ≤ 3000) (h0 : 0 < s.size) (hd : Lx.isDig s[0] = false) (hl : Lx.isLet s[0] = false) (hsg : Lx.isSg s[0] = true) :
    Calls Tryd.prog 14 #[.string s] w fun e w' => LexPost s w e w' := by
  have arm : ∀ (n : Nat), 1 ≤ n → n ≤ 2 → n ≤ s.size → Hid ((s.extract 0 n).size ≤ 3000) := fun n h1 h2 h3 => by
    have := extract_size s 0 n h3
    exact hid (by rw [this]; omega)
  by_cases h1 : s.size = 1
  · have HT := hid (head_sign h0 hd hl hsg (signLen_short h1))
    have HS := arm 1 (by omega) (by omega) (by omega)
    clear hd hl hsg arm
    have h1' : (s.size : Int) = 1 := by omega
    go_enter Tryd.func14, Tryd.ntmps14
    go_wp2_with fail
    refine (textToken_any _ _ _ HS.out).mono ?_
    rintro e w3 ⟨rfl, hb⟩
    obtain ⟨⟨c0, c1, c2, c3⟩, f0, f1, f2, f3⟩ := four_cells hb
    have HB := hid (below_one hb)
    clear hb
    go_wp2_with fail
    refine bodyPost_ret (v := .tuple #[.agg #[.int .i64 4, .int .i64 0, .string (s.extract 0 1), .int .i64 0], .int .i64 1]) (by simp [results, Tryd.results14, go_sem, c0, c1, c2, c3]) rfl (lex_ok (n := 1) HT.out rfl (below_four HB.out _ _ _ _))
  · have h2 : 1 < s.size := by omega
    by_cases hx : ((s.extract 0 2).toList == [58, 58]) = false ∧ ((s.extract 0 2).toList == [61, 61]) = false ∧ ((s.extract 0 2).toList == [61, 62]) = false ∧ ((s.extract 0 2).toList == [45, 62]) = false
    · obtain ⟨x1, x2, x3, x4⟩ := hx
      have HT := hid (head_sign h0 hd hl hsg (signLen_lone x1 x2 x3 x4))
      have HS := arm 1 (by omega) (by omega) (by omega)
      clear hd hl hsg arm h1
      go_enter Tryd.func14, Tryd.ntmps14
      go_wp2_with fail
      refine (textToken_any _ _ _ HS.out).mono ?_
      rintro e w3 ⟨rfl, hb⟩
      obtain ⟨⟨c0, c1, c2, c3⟩, f0, f1, f2, f3⟩ := four_cells hb
      have HB := hid (below_one hb)
      clear hb
      go_wp2_with fail
      refine bodyPost_ret (v := .tuple #[.agg #[.int .i64 4, .int .i64 0, .string (s.extract 0 1), .int .i64 0], .int .i64 1]) (by simp [results, Tryd.results14, go_sem, c0, c1, c2, c3]) rfl (lex_ok (n := 1) HT.out rfl (below_four HB.out _ _ _ _))
    · have hc : (s.extract 0 2).toList = [58, 58] ∨ (s.extract 0 2).toList = [61, 61] ∨ (s.extract 0 2).toList = [61, 62] ∨ (s.extract 0 2).toList = [45, 62] := by
        rcases Bool.eq_false_or_eq_true ((s.extract 0 2).toList == [58, 58]) with a | a
        · exact .inl (eq_of_beq a)
        · rcases Bool.eq_false_or_eq_true ((s.extract 0 2).toList == [61, 61]) with b | b
          · exact .inr (.inl (eq_of_beq b))
          · rcases Bool.eq_false_or_eq_true ((s.extract 0 2).toList == [61, 62]) with c | c
            · exact .inr (.inr (.inl (eq_of_beq c)))
            · rcases Bool.eq_false_or_eq_true ((s.extract 0 2).toList == [45, 62]) with d | d
              · exact .inr (.inr (.inr (eq_of_beq d)))
              · exact absurd ⟨a, b, c, d⟩ hx
      have HS := arm 2 (by omega) (by omega) (by omega)
      clear hx arm h1
      rcases hc with hc | hc | hc | hc
      all_goals
        have HT := hid (head_sign h0 hd hl hsg (signLen_pair (by rfl) hc))
        clear hd hl hsg
        go_enter Tryd.func14, Tryd.ntmps14
        go_wp2_with fail
        refine (textToken_any _ _ _ HS.out).mono ?_
        rintro e w3 ⟨rfl, hb⟩
        obtain ⟨⟨c0, c1, c2, c3⟩, f0, f1, f2, f3⟩ := four_cells hb
        have HB := hid (below_one hb)
        clear hb
        go_wp2_with fail
        refine bodyPost_ret (v := .tuple #[.agg #[.int .i64 4, .int .i64 0, .string (s.extract 0 2), .int .i64 0], .int .i64 2]) (by simp [results, Tryd.results14, go_sem, c0, c1, c2, c3]) rfl (lex_ok (n := 2) HT.out rfl (below_four HB.out _ _ _ _))
end Go.Proofs.YtkckmfnmdkfkaaaDoor
