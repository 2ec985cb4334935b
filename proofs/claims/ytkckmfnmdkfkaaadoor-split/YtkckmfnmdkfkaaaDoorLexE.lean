/-
  What the program's number, name and sign answer at the head of a text.
-/
import Derived.Test.YtkckmfnmdkfkaaaDoorNum
import Derived.Lib.AtoiErrMem
namespace Go.Proofs.YtkckmfnmdkfkaaaDoor
open Go.RowKit

theorem head_num {s : ByteArray} (h0 : 0 < s.size) (hdg : Lx.isDig s[0] = true) {l : List UInt8} (hl : s.data.toList.takeWhile Lx.isDig = l) :
    (Lx.okNum l = true → Lx.tokAt 0 s.data.toList = .ok (⟨1, 0, [], Lx.numVal l⟩, l.length)) ∧ (Lx.okNum l = false → Lx.tokAt 0 s.data.toList = .error (3, 0)) := by
  have := num_tok (j := 0) h0 hdg (l := l) (by rw [List.drop_zero]; exact hl)
  rwa [List.drop_zero] at this
theorem head_name {s : ByteArray} (h0 : 0 < s.size) (hd : Lx.isDig s[0] = false) (hl0 : Lx.isLet s[0] = true) {l : List UInt8} (hl : s.data.toList.takeWhile Lx.isNm = l) :
    (l.length ≤ 20 → Lx.tokAt 0 s.data.toList = .ok (⟨if Lx.isWd l then 3 else 2, 0, l, 0⟩, l.length)) ∧ (20 < l.length → Lx.tokAt 0 s.data.toList = .error (3, 0)) := by
  have := name_tok (j := 0) h0 hd hl0 (l := l) (by rw [List.drop_zero]; exact hl)
  rwa [List.drop_zero] at this
theorem extract0_list (s : ByteArray) (k : Nat) : (s.extract 0 k).data.toList = s.data.toList.take k := by
  simp

set_option maxRecDepth 100000 in
set_option maxHeartbeats 2000000 in
theorem lnumber_any (s : ByteArray) (w : World) (ev : Value) (hs : s.size ≤ 3000) (h0 : 0 < s.size) (hdg : Lx.isDig s[0] = true) (h2 : 2 < w.heap.size) (hv : w.cell? ⟨2, 0, none⟩ = some ev) (hev : ev = .nilIface ∨ ∃ te pe, ev = .iface te pe) :
    Calls Tryd.prog 12 #[.string s] w fun e w' => LexPost s w e w' := by
  go_enter Tryd.func12, Tryd.ntmps12
  go_wp2_with fail
  refine (span_any s false _).mono ?_
  rintro e w1 ⟨k, rfl, hsp, hb⟩
  have hk := hsp.1
  have hkl : s.data.toList.takeWhile Lx.isDig = (s.extract 0 k).data.toList := by rw [extract0_list, ← hsp.2, spanP_false]
  have HT := hid (head_num h0 hdg hkl)
  have HS := hid (extract_size s 0 k hk)
  have hk0 : 0 < k := by
    have hl := drop_cons s 0 h0
    rw [List.drop_zero] at hl
    rw [hl, List.takeWhile_cons, hdg, if_pos rfl] at hkl
    have := congrArg List.length hkl
    rw [size_len, HS.out] at this
    simp at this
    omega
  have HD := hid (show ∀ c ∈ (s.extract 0 k).data.toList, 48 ≤ c.toNat ∧ c.toNat ≤ 57 by
    intro c hc
    rw [← hkl] at hc
    exact (isDig_iff c).1 (List.all_eq_true.1 (List.all_takeWhile) c hc))
  have HNE := hid (show (s.extract 0 k).data.toList ≠ [] by
    intro e
    have := congrArg List.length e
    rw [size_len, HS.out] at this
    simp at this
    omega)
  obtain ⟨⟨c0, c1, c2, c3⟩, f0, f1, f2, f3⟩ := four_cells hb
  have HB := hid (below_one hb)
  have hv1 : w1.cell? ⟨2, 0, none⟩ = some ev := by
    have := HB.out.cell (p := ⟨2, 0, none⟩) h2
    rw [this]; exact hv
  clear hsp hkl hv
  have hd0 : 0 < (s.extract 0 k).size := by rw [HS.out]; omega
  have HP := hid (parse_digits _ HNE.out HD.out)
  have hlt1 : w.heap.size < w1.heap.size := by have := hb.size; simp at this; omega
  have HL := hid (size_len (s.extract 0 k))
  clear hb
  have hd3 : (s.extract 0 k).size ≤ 3000 := by rw [HS.out]; omega
  have HD3 := hid hd3
  clear hd3
  by_cases hbad : 1 < k ∧ ((s.extract 0 k)[0]).toNat = 48
  · have HO := hid (okNum_bad (s.extract 0 k) (by rw [HS.out]; omega) hbad.2)
    obtain ⟨hb1, hb2⟩ := hbad
    have hb2' : ((((s.extract 0 k)[0]).toNat : Int) == 48) = true := by simp [hb2]
    clear hb2
    go_wp2_with fail
    refine bodyPost_ret (v := .tuple #[.agg #[.int .i64 0, .int .i64 0, .string ⟨#[]⟩, .int .i64 0], .int .i64 0]) (by simp [results, Tryd.results12, go_sem, c0, c1, c2, c3]) rfl (lex_no (HT.out.2 HO.out) rfl (below_four HB.out _ _ _ _))
  · have hz : 1 < (s.extract 0 k).size → ((s.extract 0 k)[0]).toNat ≠ 48 := by rw [HS.out]; intro h e; exact hbad ⟨by omega, e⟩
    rcases (show k ≤ 1 ∨ (1 < k ∧ ((((s.extract 0 k)[0]).toNat : Int) == 48) = false) from by
      by_cases h1 : 1 < k
      · refine .inr ⟨h1, ?_⟩
        have := hz (by rw [HS.out]; omega)
        simp; omega
      · exact .inl (by omega)) with hk1 | ⟨hk1, hk2⟩
    all_goals
      have HZ := hid hz
      clear hz hbad
      by_cases hbig : Lx.numVal (s.extract 0 k).data.toList ≤ 9223372036854775807
      · have HO := hid (okNum_good (s.extract 0 k) hd0 HZ.out hbig)
        have HPI := hid (HP.out.1 hbig)
        have HBG := hid hbig
        obtain ⟨v, hvv⟩ : ∃ v : Int, v = (Lx.numVal (s.extract 0 k).data.toList : Int) := ⟨_, rfl⟩
        have HV := hid hvv
        clear hbig hvv
        go_wp2_with fail
        refine (Tryd.strconv_ParseInt_10_at64_ok (s.extract 0 k) (by have := HD3.out; omega) v (by rw [HPI.out, HV.out]) _).mono ?_
        rintro e w2 ⟨rfl, hw2⟩
        have hb2 : Below w1.heap.size w1 w2 := by
          rcases hw2 with rfl | ⟨t, rfl⟩
          · exact Below.refl _ _
          · exact Lib.bytesWorld_below _ _ _
        have d0 := (hb2.cell (p := ⟨w.heap.size, 0, none⟩) hlt1).trans c0
        have d1 := (hb2.cell (p := ⟨w.heap.size, 1, none⟩) hlt1).trans c1
        have d2 := (hb2.cell (p := ⟨w.heap.size, 2, none⟩) hlt1).trans c2
        have d3 := (hb2.cell (p := ⟨w.heap.size, 3, none⟩) hlt1).trans c3
        have g0 := (hb2.frozen (p := ⟨w.heap.size, 0, none⟩) hlt1).trans f0
        have g1 := (hb2.frozen (p := ⟨w.heap.size, 1, none⟩) hlt1).trans f1
        have g2 := (hb2.frozen (p := ⟨w.heap.size, 2, none⟩) hlt1).trans f2
        have g3 := (hb2.frozen (p := ⟨w.heap.size, 3, none⟩) hlt1).trans f3
        have HB2 := hid (HB.out.trans (hb2.mono (Nat.le_of_lt hlt1)))
        clear hw2 hb2
        go_wp2_with fail
        refine bodyPost_ret (v := .tuple #[.agg #[.int .i64 1, .int .i64 0, .string ⟨#[]⟩, .int .i64 v], .int .i64 k]) (by simp [results, Tryd.results12, go_sem, d0, d1, d2, d3]) rfl (lex_ok (n := k) (by rw [HT.out.1 HO.out, HL.out, HS.out, Nat.sub_zero]) (by rw [HV.out]; rfl) (below_four HB2.out _ _ _ _))
      · have HO := hid (okNum_big (s.extract 0 k).data.toList (by omega))
        have HPI := hid (HP.out.2 (by omega))
        clear hbig
        go_wp2_with fail
        refine (Tryd.strconv_ParseInt_10_at64_range (s.extract 0 k) (by have := HD3.out; omega) HPI.out ev _ hv1 hev).mono ?_
        rintro e w2 ⟨N, rfl, _, _, hb2⟩
        have d0 := (hb2.cell (p := ⟨w.heap.size, 0, none⟩) hlt1).trans c0
        have d1 := (hb2.cell (p := ⟨w.heap.size, 1, none⟩) hlt1).trans c1
        have d2 := (hb2.cell (p := ⟨w.heap.size, 2, none⟩) hlt1).trans c2
        have d3 := (hb2.cell (p := ⟨w.heap.size, 3, none⟩) hlt1).trans c3
        have g0 := (hb2.frozen (p := ⟨w.heap.size, 0, none⟩) hlt1).trans f0
        have g1 := (hb2.frozen (p := ⟨w.heap.size, 1, none⟩) hlt1).trans f1
        have g2 := (hb2.frozen (p := ⟨w.heap.size, 2, none⟩) hlt1).trans f2
        have g3 := (hb2.frozen (p := ⟨w.heap.size, 3, none⟩) hlt1).trans f3
        have HB2 := hid (HB.out.trans (hb2.mono (Nat.le_of_lt hlt1)))
        clear hb2
        go_wp2_with fail
        refine bodyPost_ret (v := .tuple #[.agg #[.int .i64 0, .int .i64 0, .string ⟨#[]⟩, .int .i64 0], .int .i64 0]) (by simp [results, Tryd.results12, go_sem, d0, d1, d2, d3]) rfl (lex_no (HT.out.2 HO.out) rfl (below_four HB2.out _ _ _ _))
end Go.Proofs.YtkckmfnmdkfkaaaDoor
