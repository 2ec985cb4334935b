/-
  What the program's span answers: how many bytes of a text, from its head on, are digits (or digits and letters).
  Rows of digits, in plain words: what ParseInt makes of them, and that it is what they say.
  What the program's number, name and sign answer at the head of a text.
  What the program's name and sign answer at the head of a text.
  The scan of a text, in plain words: runes never jump over a byte of ASCII; what each step of the scan leaves to be read.
-/
import Derived.Test.YtoajnlhegallpaaGreatDoorMLa
import Derived.Lib.ParseIntB
import Derived.Lib.AtoiErrMem
set_option linter.unusedVariables false
set_option linter.unusedSimpArgs false
set_option maxRecDepth 100000
set_option maxHeartbeats 2000000
namespace Go.Proofs.YtoajnlhegallpaaGreatDoor
namespace Lr
open Go.RowKit

def spanP (b : Bool) (c : UInt8) : Bool := Lx.isDig c || (b && Lx.isLet c)
def SpanTo (s : ByteArray) (b : Bool) (k : Nat) : Prop := k ≤ s.size ∧ s.data.toList.takeWhile (spanP b) = s.data.toList.take k

theorem isLet_iff (c : UInt8) : Lx.isLet c = true ↔ (97 ≤ c.toNat ∧ c.toNat ≤ 122) ∨ (65 ≤ c.toNat ∧ c.toNat ≤ 90) ∨ c.toNat = 95 := by
 simp [Lx.isLet]; omega
theorem clB_none {c : UInt8} (h1 : Lx.isDig c = false) (h2 : Lx.isLet c = false) : clB c ≠ 3 ∧ clB c ≠ 4 := by
 unfold clB
 rw [h1, h2]
 by_cases a : Lx.isBl c = true
 ·simp [a]
 ·by_cases b : c.toNat = 35
  ·simp [a, b]
  ·by_cases d : Lx.isSg c = true <;> simp [a, b, d]
theorem span_stop {s : ByteArray} {b : Bool} {k : Nat} (hk : k ≤ s.size) (hall : ∀ q (h : q < s.size), q < k → spanP b s[q] = true) (hend : ∀ h : k < s.size, spanP b s[k] = false) : SpanTo s b k := by
 refine ⟨hk, ?_⟩
 have := run_take (p := spanP b) s 0 k (Nat.zero_le _) hk (fun q h _ h2 => hall q h h2) hend
 simpa using this
theorem span_step {s : ByteArray} {b : Bool} {k : Nat} (hall : ∀ q (h : q < s.size), q < k → spanP b s[q] = true) (hk : k < s.size) (h : spanP b s[k] = true) : ∀ q (h : q < s.size), q < k + 1 → spanP b s[q] = true := by
 intro q hq h2
 by_cases e : q = k
 ·subst e; exact h
 ·exact hall q hq (by omega)

theorem span_any (s : ByteArray) (b : Bool) (w : World) :
  Calls Tryz.prog 95 #[.string s, .bool b] w fun e w' => ∃ k : Nat, e = .returned (.int .i64 k) ∧ SpanTo s b k ∧ Below w.heap.size w w' := by
 go_enter Tryz.func95, Tryz.ntmps95
 go_wp2
 go_loopw [] (fun wr => ∃ pos : Nat, pos ≤ s.size ∧ wr.heap[w.heap.size]? = some (.stringIter s pos) ∧ Below w.heap.size w wr ∧ Hid (∀ q (h : q < s.size), q < pos → spanP b s[q] = true)) (fun wr => s.size - wr.iterPos w.heap.size)
 case atStart =>
  refine ⟨0, Nat.zero_le _, ?_, (Below.refl _ w).alloc (Nat.le_refl _) _, hid (fun q h h2 => absurd h2 (by omega))⟩
  have := World.iter_heap w s 0
  simpa using this
 case round =>
  obtain ⟨pos, hpl, hit, hb, H⟩ := hrel
  have hsz : w.heap.size < wr.heap.size := (Array.getElem?_eq_some_iff.1 hit).1
  by_cases hp : pos < s.size
  ·by_cases hasc : (s[pos]).toNat < 128
   ·have hnx : ∀ ty, (Instr.next (.pointer (some ⟨w.heap.size, 0, none⟩)) true ty).run Tryz.prog wr = _ := fun ty => Lib.run_next_ascii_at wr w.heap.size s pos ty hit hp hasc
    have hit2 := Lib.iterAt_heap wr w.heap.size s pos (pos + 1) hit
    have hb2 := Lib.below_iterAt hb (Nat.le_refl _) s (pos + 1)
    cases hd : Lx.isDig s[pos] with
    | true =>
     have hcl := clB_dig ((isDig_iff _).1 hd)
     have HST := hid (span_step H.out hp (show spanP b s[pos] = true by simp [spanP, hd]))
     clear hd
     go_wp2_with (go_at_call 54; refine (classOf_lo s[pos] _ hasc).mono ?_; rintro e w' ⟨rfl, rfl⟩; rw [hcl])
     go_roundw
     case rel => exact ⟨pos + 1, by omega, hit2, hb2, HST⟩
     case measure =>
      simp only [World.iterPos, hit2, hit]
      omega
    | false =>
     cases hl : Lx.isLet s[pos] with
     | true =>
      have hcl := clB_let ((isLet_iff _).1 hl)
      cases b with
      | true =>
       have HST := hid (span_step H.out hp (show spanP true s[pos] = true by simp [spanP, hl]))
       clear hd hl
       go_wp2_with (go_at_call 54; refine (classOf_lo s[pos] _ hasc).mono ?_; rintro e w' ⟨rfl, rfl⟩; rw [hcl])
       go_roundw
       case rel => exact ⟨pos + 1, by omega, hit2, hb2, HST⟩
       case measure =>
        simp only [World.iterPos, hit2, hit]
        omega
      | false =>
       have HST := hid (span_stop (b := false) hpl H.out (fun _ => by simp [spanP, hd]))
       clear hd hl
       go_wp2_with (go_at_call 54; refine (classOf_lo s[pos] _ hasc).mono ?_; rintro e w' ⟨rfl, rfl⟩; rw [hcl])
       go_ret
       exact ⟨pos, rfl, HST.out, hb2⟩
     | false =>
      have hcl := clB_none hd hl
      have h3 : ((clB s[pos] : Int) != 3) = true := by simp; omega
      have h4 : ((clB s[pos] : Int) == 4) = false := by simp; omega
      have HST := hid (span_stop (b := b) hpl H.out (fun _ => by simp [spanP, hd, hl]))
      clear hd hl hcl
      cases b with
      | true =>
       go_wp2_with (go_at_call 54; refine (classOf_lo s[pos] _ hasc).mono ?_; rintro e w' ⟨rfl, rfl⟩)
       go_ret
       exact ⟨pos, rfl, HST.out, hb2⟩
      | false =>
       go_wp2_with (go_at_call 54; refine (classOf_lo s[pos] _ hasc).mono ?_; rintro e w' ⟨rfl, rfl⟩)
       go_ret
       exact ⟨pos, rfl, HST.out, hb2⟩
   ·have hhi := decode_high s pos hp (by omega)
    have hnx : ∀ ty, (Instr.next (.pointer (some ⟨w.heap.size, 0, none⟩)) true ty).run Tryz.prog wr = _ := fun ty => Lib.run_next_any_at wr w.heap.size s pos ty hit hp
    have hb2 := Lib.below_iterAt hb (Nat.le_refl _) s (pos + (Utf8.decode s pos).2)
    have hz2 := Lib.iterAt_size wr w.heap.size s (pos + (Utf8.decode s pos).2)
    have HZ2 := hid hz2
    have HST := hid (span_stop (b := b) hpl H.out (fun _ => by
     have e1 : Lx.isDig s[pos] = false := by
      cases hq : Lx.isDig s[pos] with
      | false => rfl
      | true => have := (isDig_iff _).1 hq; omega
     have e2 : Lx.isLet s[pos] = false := by
      cases hq : Lx.isLet s[pos] with
      | false => rfl
      | true => have := (isLet_iff _).1 hq; omega
     simp [spanP, e1, e2]))
    have h128 : (128 : Int) ≤ ((Utf8.decode s pos).1 : Int) := by omega
    clear hz2 hhi
    cases b with
    | true =>
     go_wp2_with (go_at_call 54; refine (classOf_hi _ _ h128).mono ?_; rintro e w1 ⟨rfl, hbc⟩)
     go_ret
     exact ⟨pos, rfl, HST.out, hb2.trans (hbc.mono (by rw [HZ2.out]; omega))⟩
    | false =>
     go_wp2_with (go_at_call 54; refine (classOf_hi _ _ h128).mono ?_; rintro e w1 ⟨rfl, hbc⟩)
     go_ret
     exact ⟨pos, rfl, HST.out, hb2.trans (hbc.mono (by rw [HZ2.out]; omega))⟩
  ·have hnx : ∀ ty, (Instr.next (.pointer (some ⟨w.heap.size, 0, none⟩)) true ty).run Tryz.prog wr = _ := fun ty => Lib.run_next_end_at wr w.heap.size s pos ty hit hp
   have hpe : pos = s.size := by omega
   have HST := hid (span_stop (b := b) hpl H.out (fun h => absurd h hp))
   subst hpe
   go_wp2
   go_ret
   exact ⟨s.size, rfl, HST.out, hb⟩
end Lr

namespace Lr
open Go.RowKit

def numFrom (a : Nat) (l : List UInt8) : Nat := l.foldl (fun a c => 10 * a + (c.toNat - 48)) a
theorem numFrom_ge (l : List UInt8) : ∀ a, a ≤ numFrom a l := by
 induction l with
 | nil => intro a; exact Nat.le_refl _
 | cons c r ih =>
  intro a
  have := ih (10 * a + (c.toNat - 48))
  show a ≤ numFrom (10 * a + (c.toNat - 48)) r
  omega

def maxU : Nat := 18446744073709551615

theorem parseM (l : List UInt8) : ∀ a, a ≤ maxU → (∀ c ∈ l, 48 ≤ c.toNat ∧ c.toNat ≤ 57) → Lib.parseUintM maxU a l = if numFrom a l ≤ maxU then .ok (numFrom a l) else .range := by
 induction l with
 | nil =>
  intro a ha _
  have : numFrom a [] = a := rfl
  rw [this, if_pos ha]; rfl
 | cons c r ih =>
  intro a ha hd
  have hc := hd c (List.mem_cons_self ..)
  have e0 : a * 10 + (c.toNat - 48) = 10 * a + (c.toNat - 48) := by omega
  have e1 : numFrom a (c :: r) = numFrom (10 * a + (c.toNat - 48)) r := rfl
  have hge := numFrom_ge r (10 * a + (c.toNat - 48))
  rw [Lib.parseUintM, if_pos hc, e0, e1]
  by_cases h1 : 1844674407370955162 ≤ a
  ·rw [if_pos h1, if_neg (by unfold maxU; omega)]
  ·rw [if_neg h1]
   by_cases h2 : maxU < 10 * a + (c.toNat - 48)
   ·rw [if_pos h2, if_neg (by omega)]
   ·rw [if_neg h2]
    exact ih _ (by omega) (fun x hx => hd x (List.mem_cons_of_mem _ hx))

theorem maxU_eq : (2 : Nat) ^ 64 - 1 = maxU := by unfold maxU; rfl
theorem half_eq : (2 : Nat) ^ (64 - 1) = 9223372036854775808 := rfl

theorem parse_digits (l : List UInt8) (hne : l ≠ []) (hd : ∀ c ∈ l, 48 ≤ c.toNat ∧ c.toNat ≤ 57) :
  (Lx.numVal l ≤ 9223372036854775807 → Lib.parseIntB 64 l = .ok (Lx.numVal l : Int)) ∧ (9223372036854775807 < Lx.numVal l → Lib.parseIntB 64 l = .range) := by
 cases l with
 | nil => exact absurd rfl hne
 | cons c r =>
  have hc := hd c (List.mem_cons_self ..)
  have hn : ¬ (c.toNat = 43 ∨ c.toNat = 45) := by omega
  have hn2 : ¬ (c.toNat = 45) := by omega
  have hnv : Lx.numVal (c :: r) = numFrom 0 (c :: r) := rfl
  have hu : Lib.parseUintB 64 (c :: r) = if numFrom 0 (c :: r) ≤ maxU then .ok (numFrom 0 (c :: r)) else .range := by
   rw [Lib.parseUintB, if_neg (by simp), maxU_eq]
   exact parseM (c :: r) 0 (Nat.zero_le _) hd
  rw [hnv]
  generalize numFrom 0 (c :: r) = v at *
  constructor
  ·intro hv
   rw [if_pos (by unfold maxU; omega)] at hu
   rw [Lib.parseIntB, if_neg hn, hu]
   dsimp only
   rw [half_eq, if_neg (by omega), if_neg (by omega), if_neg hn2]
  ·intro hv
   rw [Lib.parseIntB, if_neg hn, hu]
   by_cases hm : v ≤ maxU
   ·rw [if_pos hm]
    dsimp only
    rw [half_eq, if_pos (by omega)]
   ·rw [if_neg hm]

def LexPost (s : ByteArray) (w : World) (e : Ending) (w' : World) : Prop :=
 Below w.heap.size w w' ∧
  ((∃ t n, Lx.tokAt 0 s.data.toList = .ok (t, n) ∧ e = .returned (.tuple #[tkVal t, .int .i64 (n : Nat)])) ∨
   (Lx.tokAt 0 s.data.toList = .error (3, 0) ∧ e = .returned (.tuple #[tkVal ⟨0, 0, [], 0⟩, .int .i64 0])))

theorem lex_ok {s : ByteArray} {w w' : World} {e : Ending} {t : Lx.Tk} {n : Nat} (h : Lx.tokAt 0 s.data.toList = .ok (t, n)) (he : e = .returned (.tuple #[tkVal t, .int .i64 (n : Nat)])) (hb : Below w.heap.size w w') : LexPost s w e w' :=
 ⟨hb, .inl ⟨t, n, h, he⟩⟩
theorem lex_no {s : ByteArray} {w w' : World} {e : Ending} (h : Lx.tokAt 0 s.data.toList = .error (3, 0)) (he : e = .returned (.tuple #[tkVal ⟨0, 0, [], 0⟩, .int .i64 0])) (hb : Below w.heap.size w w') : LexPost s w e w' :=
 ⟨hb, .inr ⟨h, he⟩⟩

theorem spanP_false : spanP false = Lx.isDig := by funext c; simp [spanP]
theorem spanP_true : spanP true = Lx.isNm := by funext c; simp [spanP, Lx.isNm, Bool.or_comm]
end Lr

namespace Lr
open Go.RowKit

theorem head_num {s : ByteArray} (h0 : 0 < s.size) (hdg : Lx.isDig s[0] = true) {l : List UInt8} (hl : s.data.toList.takeWhile Lx.isDig = l) :
  (Lx.okNum l = true → Lx.tokAt 0 s.data.toList = .ok (⟨1, 0, [], Lx.numVal l⟩, l.length)) ∧ (Lx.okNum l = false → Lx.tokAt 0 s.data.toList = .error (3, 0)) := by
 have := num_tok (j := 0) h0 hdg (l := l) (by rw [List.drop_zero]; exact hl)
 rwa [List.drop_zero] at this
theorem head_name {s : ByteArray} (h0 : 0 < s.size) (hd : Lx.isDig s[0] = false) (hl0 : Lx.isLet s[0] = true) {l : List UInt8} (hl : s.data.toList.takeWhile Lx.isNm = l) :
  (l.length ≤ 20 → Lx.tokAt 0 s.data.toList = .ok (⟨if Lx.isWd l then 3 else 2, 0, l, 0⟩, l.length)) ∧ (20 < l.length → Lx.tokAt 0 s.data.toList = .error (3, 0)) := by
 have := name_tok (j := 0) h0 hd hl0 (l := l) (by rw [List.drop_zero]; exact hl)
 rwa [List.drop_zero] at this
theorem extract0_list (s : ByteArray) (k : Nat) : (s.extract 0 k).data.toList = s.data.toList.take k := by
 simp

theorem lnumber_any (s : ByteArray) (w : World) (ev : Value) (hs : s.size ≤ 3000) (h0 : 0 < s.size) (hdg : Lx.isDig s[0] = true) (h2 : 2 < w.heap.size) (hv : w.cell? ⟨2, 0, none⟩ = some ev) (hev : ev = .nilIface ∨ ∃ te pe, ev = .iface te pe) :
  Calls Tryz.prog 56 #[.string s] w fun e w' => LexPost s w e w' := by
 go_enter Tryz.func56, Tryz.ntmps56
 go_wp2_with fail
 refine (span_any s false _).mono ?_
 rintro e w1 ⟨k, rfl, hsp, hb⟩
 have hk := hsp.1
 have hkl : s.data.toList.takeWhile Lx.isDig = (s.extract 0 k).data.toList := by rw [extract0_list, ← hsp.2, spanP_false]
 have HT := hid (head_num h0 hdg hkl)
 have HS := hid (extract_size s 0 k hk)
 have hk0 : 0 < k := by
  have hl := drop_cons s 0 h0
  rw [List.drop_zero] at hl
  rw [hl, List.takeWhile_cons, hdg, if_pos rfl] at hkl
  have := congrArg List.length hkl
  rw [size_len, HS.out] at this
  simp at this
  omega
 have HD := hid (show ∀ c ∈ (s.extract 0 k).data.toList, 48 ≤ c.toNat ∧ c.toNat ≤ 57 by
  intro c hc
  rw [← hkl] at hc
  exact (isDig_iff c).1 (List.all_eq_true.1 (List.all_takeWhile) c hc))
 have HNE := hid (show (s.extract 0 k).data.toList ≠ [] by
  intro e
  have := congrArg List.length e
  rw [size_len, HS.out] at this
  simp at this
  omega)
 obtain ⟨⟨c0, c1, c2, c3⟩, f0, f1, f2, f3⟩ := four_cells hb
 have HB := hid (below_one hb)
 have hv1 : w1.cell? ⟨2, 0, none⟩ = some ev := by
  have := HB.out.cell (p := ⟨2, 0, none⟩) h2
  rw [this]; exact hv
 clear hsp hkl hv
 have hd0 : 0 < (s.extract 0 k).size := by rw [HS.out]; omega
 have HP := hid (parse_digits _ HNE.out HD.out)
 have hlt1 : w.heap.size < w1.heap.size := by have := hb.size; simp at this; omega
 have HL := hid (size_len (s.extract 0 k))
 clear hb
 have hd3 : (s.extract 0 k).size ≤ 3000 := by rw [HS.out]; omega
 have HD3 := hid hd3
 clear hd3
 by_cases hbad : 1 < k ∧ ((s.extract 0 k)[0]).toNat = 48
 ·have HO := hid (okNum_bad (s.extract 0 k) (by rw [HS.out]; omega) hbad.2)
  obtain ⟨hb1, hb2⟩ := hbad
  have hb2' : ((((s.extract 0 k)[0]).toNat : Int) == 48) = true := by simp [hb2]
  clear hb2
  go_wp2_with fail
  refine bodyPost_ret (v := .tuple #[.agg #[.int .i64 0, .int .i64 0, .string ⟨#[]⟩, .int .i64 0], .int .i64 0]) (by simp [results, Tryz.results56, go_sem, c0, c1, c2, c3]) rfl (lex_no (HT.out.2 HO.out) rfl (below_four HB.out _ _ _ _))
 ·have hz : 1 < (s.extract 0 k).size → ((s.extract 0 k)[0]).toNat ≠ 48 := by rw [HS.out]; intro h e; exact hbad ⟨by omega, e⟩
  rcases (show k ≤ 1 ∨ (1 < k ∧ ((((s.extract 0 k)[0]).toNat : Int) == 48) = false) from by
   by_cases h1 : 1 < k
   ·refine .inr ⟨h1, ?_⟩
    have := hz (by rw [HS.out]; omega)
    simp; omega
   ·exact .inl (by omega)) with hk1 | ⟨hk1, hk2⟩
  all_goals
   have HZ := hid hz
   clear hz hbad
   by_cases hbig : Lx.numVal (s.extract 0 k).data.toList ≤ 9223372036854775807
   ·have HO := hid (okNum_good (s.extract 0 k) hd0 HZ.out hbig)
    have HPI := hid (HP.out.1 hbig)
    have HBG := hid hbig
    obtain ⟨v, hvv⟩ : ∃ v : Int, v = (Lx.numVal (s.extract 0 k).data.toList : Int) := ⟨_, rfl⟩
    have HV := hid hvv
    clear hbig hvv
    go_wp2_with fail
    refine (Tryz.strconv_ParseInt_10_at64_ok (s.extract 0 k) (by have := HD3.out; omega) v (by rw [HPI.out, HV.out]) _).mono ?_
    rintro e w2 ⟨rfl, hw2⟩
    have hb2 : Below w1.heap.size w1 w2 := by
     rcases hw2 with rfl | ⟨t, rfl⟩
     ·exact Below.refl _ _
     ·exact Lib.bytesWorld_below _ _ _
    have d0 := (hb2.cell (p := ⟨w.heap.size, 0, none⟩) hlt1).trans c0
    have d1 := (hb2.cell (p := ⟨w.heap.size, 1, none⟩) hlt1).trans c1
    have d2 := (hb2.cell (p := ⟨w.heap.size, 2, none⟩) hlt1).trans c2
    have d3 := (hb2.cell (p := ⟨w.heap.size, 3, none⟩) hlt1).trans c3
    have g0 := (hb2.frozen (p := ⟨w.heap.size, 0, none⟩) hlt1).trans f0
    have g1 := (hb2.frozen (p := ⟨w.heap.size, 1, none⟩) hlt1).trans f1
    have g2 := (hb2.frozen (p := ⟨w.heap.size, 2, none⟩) hlt1).trans f2
    have g3 := (hb2.frozen (p := ⟨w.heap.size, 3, none⟩) hlt1).trans f3
    have HB2 := hid (HB.out.trans (hb2.mono (Nat.le_of_lt hlt1)))
    clear hw2 hb2
    go_wp2_with fail
    refine bodyPost_ret (v := .tuple #[.agg #[.int .i64 1, .int .i64 0, .string ⟨#[]⟩, .int .i64 v], .int .i64 k]) (by simp [results, Tryz.results56, go_sem, d0, d1, d2, d3]) rfl (lex_ok (n := k) (by rw [HT.out.1 HO.out, HL.out, HS.out, Nat.sub_zero]) (by rw [HV.out]; rfl) (below_four HB2.out _ _ _ _))
   ·have HO := hid (okNum_big (s.extract 0 k).data.toList (by omega))
    have HPI := hid (HP.out.2 (by omega))
    clear hbig
    go_wp2_with fail
    refine (Tryz.strconv_ParseInt_10_at64_range (s.extract 0 k) (by have := HD3.out; omega) HPI.out ev _ hv1 hev).mono ?_
    rintro e w2 ⟨N, rfl, _, _, hb2⟩
    have d0 := (hb2.cell (p := ⟨w.heap.size, 0, none⟩) hlt1).trans c0
    have d1 := (hb2.cell (p := ⟨w.heap.size, 1, none⟩) hlt1).trans c1
    have d2 := (hb2.cell (p := ⟨w.heap.size, 2, none⟩) hlt1).trans c2
    have d3 := (hb2.cell (p := ⟨w.heap.size, 3, none⟩) hlt1).trans c3
    have g0 := (hb2.frozen (p := ⟨w.heap.size, 0, none⟩) hlt1).trans f0
    have g1 := (hb2.frozen (p := ⟨w.heap.size, 1, none⟩) hlt1).trans f1
    have g2 := (hb2.frozen (p := ⟨w.heap.size, 2, none⟩) hlt1).trans f2
    have g3 := (hb2.frozen (p := ⟨w.heap.size, 3, none⟩) hlt1).trans f3
    have HB2 := hid (HB.out.trans (hb2.mono (Nat.le_of_lt hlt1)))
    clear hb2
    go_wp2_with fail
    refine bodyPost_ret (v := .tuple #[.agg #[.int .i64 0, .int .i64 0, .string ⟨#[]⟩, .int .i64 0], .int .i64 0]) (by simp [results, Tryz.results56, go_sem, d0, d1, d2, d3]) rfl (lex_no (HT.out.2 HO.out) rfl (below_four HB2.out _ _ _ _))
end Lr

namespace Lr
open Go.RowKit

theorem lname_any (s : ByteArray) (w : World) (h0 : 0 < s.size) (hd : Lx.isDig s[0] = false) (hl : Lx.isLet s[0] = true) :
  Calls Tryz.prog 57 #[.string s] w fun e w' => LexPost s w e w' := by
 go_enter Tryz.func57, Tryz.ntmps57
 go_wp2_with fail
 refine (span_any s true _).mono ?_
 rintro e w1 ⟨k, rfl, hsp, hb⟩
 have hk := hsp.1
 have hkl : s.data.toList.takeWhile Lx.isNm = (s.extract 0 k).data.toList := by rw [extract0_list, ← hsp.2, spanP_true]
 have HT := hid (head_name h0 hd hl hkl)
 have HS := hid (extract_size s 0 k hk)
 have HL := hid (size_len (s.extract 0 k))
 obtain ⟨⟨c0, c1, c2, c3⟩, f0, f1, f2, f3⟩ := four_cells hb
 have HB := hid (below_one hb)
 have hlt1 : w.heap.size < w1.heap.size := by have := hb.size; simp at this; omega
 clear hsp hkl hb hd hl
 by_cases hlong : 20 < k
 ·go_wp2_with fail
  refine bodyPost_ret (v := .tuple #[.agg #[.int .i64 0, .int .i64 0, .string ⟨#[]⟩, .int .i64 0], .int .i64 0]) (by simp [results, Tryz.results57, go_sem, c0, c1, c2, c3]) rfl (lex_no (HT.out.2 (by rw [HL.out, HS.out]; omega)) rfl (below_four HB.out _ _ _ _))
 ·cases hw : Lx.isWd (s.extract 0 k).data.toList with
  | true =>
   go_wp2_with (first
    | (go_at_call 97; refine (lisWord_any _ _).mono ?_; rintro e w2 ⟨rfl, rfl⟩; rw [hw])
    | (go_at_call 98; refine (textToken_any _ _ _ (by rw [HS.out]; omega)).mono ?_; rintro e w3 ⟨rfl, hb3⟩; have d0 := (hb3.cell (p := ⟨w.heap.size, 0, none⟩) hlt1).trans c0; have d1 := (hb3.cell (p := ⟨w.heap.size, 1, none⟩) hlt1).trans c1; have d2 := (hb3.cell (p := ⟨w.heap.size, 2, none⟩) hlt1).trans c2; have d3 := (hb3.cell (p := ⟨w.heap.size, 3, none⟩) hlt1).trans c3; have g0 := (hb3.frozen (p := ⟨w.heap.size, 0, none⟩) hlt1).trans f0; have g1 := (hb3.frozen (p := ⟨w.heap.size, 1, none⟩) hlt1).trans f1; have g2 := (hb3.frozen (p := ⟨w.heap.size, 2, none⟩) hlt1).trans f2; have g3 := (hb3.frozen (p := ⟨w.heap.size, 3, none⟩) hlt1).trans f3; have HB3 := hid (HB.out.trans (hb3.mono (Nat.le_of_lt hlt1))); clear hb3))
   refine bodyPost_ret (v := .tuple #[.agg #[.int .i64 3, .int .i64 0, .string (s.extract 0 k), .int .i64 0], .int .i64 k]) (by simp [results, Tryz.results57, go_sem, d0, d1, d2, d3]) rfl (lex_ok (n := k) (by rw [HT.out.1 (by rw [HL.out, HS.out]; omega), HL.out, HS.out, Nat.sub_zero]) (by rw [hw]; rfl) (below_four HB3.out _ _ _ _))
  | false =>
   go_wp2_with (first
    | (go_at_call 97; refine (lisWord_any _ _).mono ?_; rintro e w2 ⟨rfl, rfl⟩; rw [hw])
    | (go_at_call 98; refine (textToken_any _ _ _ (by rw [HS.out]; omega)).mono ?_; rintro e w3 ⟨rfl, hb3⟩; have d0 := (hb3.cell (p := ⟨w.heap.size, 0, none⟩) hlt1).trans c0; have d1 := (hb3.cell (p := ⟨w.heap.size, 1, none⟩) hlt1).trans c1; have d2 := (hb3.cell (p := ⟨w.heap.size, 2, none⟩) hlt1).trans c2; have d3 := (hb3.cell (p := ⟨w.heap.size, 3, none⟩) hlt1).trans c3; have g0 := (hb3.frozen (p := ⟨w.heap.size, 0, none⟩) hlt1).trans f0; have g1 := (hb3.frozen (p := ⟨w.heap.size, 1, none⟩) hlt1).trans f1; have g2 := (hb3.frozen (p := ⟨w.heap.size, 2, none⟩) hlt1).trans f2; have g3 := (hb3.frozen (p := ⟨w.heap.size, 3, none⟩) hlt1).trans f3; have HB3 := hid (HB.out.trans (hb3.mono (Nat.le_of_lt hlt1))); clear hb3))
   refine bodyPost_ret (v := .tuple #[.agg #[.int .i64 2, .int .i64 0, .string (s.extract 0 k), .int .i64 0], .int .i64 k]) (by simp [results, Tryz.results57, go_sem, d0, d1, d2, d3]) rfl (lex_ok (n := k) (by rw [HT.out.1 (by rw [HL.out, HS.out]; omega), HL.out, HS.out, Nat.sub_zero]) (by rw [hw]; rfl) (below_four HB3.out _ _ _ _))

theorem signLen_short {s : ByteArray} (h : s.size = 1) : Lx.signLen s.data.toList = 1 := by
 apply signLen_one
 intro q hq hb
 have hl := sign_lens q (by omega)
 rw [if_pos hq] at hl
 unfold Begins at hb
 have := congrArg List.length hb
 rw [hl] at this
 simp at this
 omega
theorem head_sign {s : ByteArray} (h0 : 0 < s.size) (hd : Lx.isDig s[0] = false) (hl : Lx.isLet s[0] = false) (hs : Lx.isSg s[0] = true) {n : Nat} (hn : Lx.signLen s.data.toList = n) :
  Lx.tokAt 0 s.data.toList = .ok (⟨4, 0, (s.extract 0 n).data.toList, 0⟩, n) := by
 have e := drop_cons s 0 h0
 rw [List.drop_zero] at e
 rw [extract0_list]
 rw [e] at hn ⊢
 rw [Lx.tokAt_sg 0 _ _ hd hl hs, hn]
theorem signLen_pair {s : ByteArray} {x : List UInt8} (hx : Lx.twos.contains x = true) (h : (s.extract 0 2).toList = x) : Lx.signLen s.data.toList = 2 := by
 rw [← toList_data, extract0_list] at h
 unfold Lx.signLen
 rw [h, if_pos hx]
theorem signLen_lone {s : ByteArray} (h1 : ((s.extract 0 2).toList == [58, 58]) = false) (h2 : ((s.extract 0 2).toList == [61, 61]) = false) (h3 : ((s.extract 0 2).toList == [61, 62]) = false) (h4 : ((s.extract 0 2).toList == [45, 62]) = false) : Lx.signLen s.data.toList = 1 := by
 rw [← toList_data, extract0_list] at h1 h2 h3 h4
 unfold Lx.signLen
 rw [if_neg]
 simp only [Lx.twos, List.contains_cons, List.contains_nil, h1, h2, h3, h4]
 decide

theorem lsign_any (s : ByteArray) (w : World) (hs : s.size ≤ 3000) (h0 : 0 < s.size) (hd : Lx.isDig s[0] = false) (hl : Lx.isLet s[0] = false) (hsg : Lx.isSg s[0] = true) :
  Calls Tryz.prog 58 #[.string s] w fun e w' => LexPost s w e w' := by
 have arm : ∀ (n : Nat), 1 ≤ n → n ≤ 2 → n ≤ s.size → Hid ((s.extract 0 n).size ≤ 3000) := fun n h1 h2 h3 => by
  have := extract_size s 0 n h3
  exact hid (by rw [this]; omega)
 by_cases h1 : s.size = 1
 ·have HT := hid (head_sign h0 hd hl hsg (signLen_short h1))
  have HS := arm 1 (by omega) (by omega) (by omega)
  clear hd hl hsg arm
  have h1' : (s.size : Int) = 1 := by omega
  go_enter Tryz.func58, Tryz.ntmps58
  go_wp2_with fail
  refine (textToken_any _ _ _ HS.out).mono ?_
  rintro e w3 ⟨rfl, hb⟩
  obtain ⟨⟨c0, c1, c2, c3⟩, f0, f1, f2, f3⟩ := four_cells hb
  have HB := hid (below_one hb)
  clear hb
  go_wp2_with fail
  refine bodyPost_ret (v := .tuple #[.agg #[.int .i64 4, .int .i64 0, .string (s.extract 0 1), .int .i64 0], .int .i64 1]) (by simp [results, Tryz.results58, go_sem, c0, c1, c2, c3]) rfl (lex_ok (n := 1) HT.out rfl (below_four HB.out _ _ _ _))
 ·have h2 : 1 < s.size := by omega
  by_cases hx : ((s.extract 0 2).toList == [58, 58]) = false ∧ ((s.extract 0 2).toList == [61, 61]) = false ∧ ((s.extract 0 2).toList == [61, 62]) = false ∧ ((s.extract 0 2).toList == [45, 62]) = false
  ·obtain ⟨x1, x2, x3, x4⟩ := hx
   have HT := hid (head_sign h0 hd hl hsg (signLen_lone x1 x2 x3 x4))
   have HS := arm 1 (by omega) (by omega) (by omega)
   clear hd hl hsg arm h1
   go_enter Tryz.func58, Tryz.ntmps58
   go_wp2_with fail
   refine (textToken_any _ _ _ HS.out).mono ?_
   rintro e w3 ⟨rfl, hb⟩
   obtain ⟨⟨c0, c1, c2, c3⟩, f0, f1, f2, f3⟩ := four_cells hb
   have HB := hid (below_one hb)
   clear hb
   go_wp2_with fail
   refine bodyPost_ret (v := .tuple #[.agg #[.int .i64 4, .int .i64 0, .string (s.extract 0 1), .int .i64 0], .int .i64 1]) (by simp [results, Tryz.results58, go_sem, c0, c1, c2, c3]) rfl (lex_ok (n := 1) HT.out rfl (below_four HB.out _ _ _ _))
  ·have hc : (s.extract 0 2).toList = [58, 58] ∨ (s.extract 0 2).toList = [61, 61] ∨ (s.extract 0 2).toList = [61, 62] ∨ (s.extract 0 2).toList = [45, 62] := by
    rcases Bool.eq_false_or_eq_true ((s.extract 0 2).toList == [58, 58]) with a | a
    ·exact .inl (eq_of_beq a)
    ·rcases Bool.eq_false_or_eq_true ((s.extract 0 2).toList == [61, 61]) with b | b
     ·exact .inr (.inl (eq_of_beq b))
     ·rcases Bool.eq_false_or_eq_true ((s.extract 0 2).toList == [61, 62]) with c | c
      ·exact .inr (.inr (.inl (eq_of_beq c)))
      ·rcases Bool.eq_false_or_eq_true ((s.extract 0 2).toList == [45, 62]) with d | d
       ·exact .inr (.inr (.inr (eq_of_beq d)))
       ·exact absurd ⟨a, b, c, d⟩ hx
   have HS := arm 2 (by omega) (by omega) (by omega)
   clear hx arm h1
   rcases hc with hc | hc | hc | hc
   all_goals
    have HT := hid (head_sign h0 hd hl hsg (signLen_pair (by rfl) hc))
    clear hd hl hsg
    go_enter Tryz.func58, Tryz.ntmps58
    go_wp2_with fail
    refine (textToken_any _ _ _ HS.out).mono ?_
    rintro e w3 ⟨rfl, hb⟩
    obtain ⟨⟨c0, c1, c2, c3⟩, f0, f1, f2, f3⟩ := four_cells hb
    have HB := hid (below_one hb)
    clear hb
    go_wp2_with fail
    refine bodyPost_ret (v := .tuple #[.agg #[.int .i64 4, .int .i64 0, .string (s.extract 0 2), .int .i64 0], .int .i64 2]) (by simp [results, Tryz.results58, go_sem, c0, c1, c2, c3]) rfl (lex_ok (n := 2) HT.out rfl (below_four HB.out _ _ _ _))
end Lr

namespace Lr
open Go.RowKit

theorem get_bang (s : ByteArray) (i : Nat) (h : i < s.size) : s.get! i = s[i] := by
 simp [ByteArray.get!, getElem!_pos, h]
 rfl

theorem decode_nojump (s : ByteArray) (pos n : Nat) (hn : n < s.size) (hpn : pos < n) (ha : (s[n]).toNat < 128) : pos + (Utf8.decode s pos).2 ≤ n := by
 have hcont : ∀ k, Hid (pos + k ≠ n ∨ (s.get! (pos + k)).toNat / 64 ≠ 2) := by
  intro k
  by_cases e : pos + k = n
  ·refine hid (.inr ?_)
   rw [e, get_bang s n hn]
   omega
  ·exact hid (.inl e)
 have H1 := hcont 1
 have H2 := hcont 2
 have H3 := hcont 3
 clear hcont
 unfold Utf8.decode
 simp only []
 repeat' split
 all_goals simp_all
 all_goals
  have a1 := H1.out
  have a2 := H2.out
  have a3 := H3.out
  omega

theorem decode_asc (s : ByteArray) (pos : Nat) (h : pos < s.size) (ha : (s[pos]).toNat < 128) : Utf8.decode s pos = ((s[pos]).toNat, 1) := decode_ascii s pos h ha

def Skip (s : ByteArray) (pos n : Nat) : Prop := pos < n → (∀ q (h : q < s.size), pos ≤ q → q < n → (s[q]).toNat < 128) ∨ (∃ h : n < s.size, (s[n]).toNat = 10)

def Inv (s : ByteArray) (acc : List Lx.Tk) (pos n : Nat) : Prop :=
 n ≤ s.size ∧ acc.length ≤ n ∧ Skip s pos n ∧ Lx.appTo acc (Lx.lex s.size (max pos n) (s.data.toList.drop (max pos n))) = Lx.lex s.size 0 s.data.toList

theorem inv_start (s : ByteArray) : Inv s [] 0 0 := ⟨Nat.zero_le _, Nat.le_refl _, fun h => absurd h (by omega), by rw [Lx.appTo_nil]; rfl⟩

theorem inv_skip {s : ByteArray} {acc : List Lx.Tk} {pos n : Nat} (hi : Inv s acc pos n) (hp : pos < s.size) (h : pos < n) : Inv s acc (pos + (Utf8.decode s pos).2) n := by
 obtain ⟨h1, h2, h3, h4⟩ := hi
 have hle : pos + (Utf8.decode s pos).2 ≤ n := by
  rcases h3 h with ha | ⟨hn, hb⟩
  ·rw [decode_asc s pos hp (ha pos hp (Nat.le_refl _) h)]
   show pos + 1 ≤ n
   omega
  ·exact decode_nojump s pos n hn h (by omega)
 refine ⟨h1, h2, ?_, ?_⟩
 ·intro _
  rcases h3 h with ha | hb
  ·exact .inl (fun q hq h5 h6 => ha q hq (by omega) h6)
  ·exact .inr hb
 ·rw [Nat.max_eq_right (by omega)] at h4 ⊢
  exact h4

theorem inv_here {s : ByteArray} {acc : List Lx.Tk} {pos n : Nat} (hi : Inv s acc pos n) (h : n ≤ pos) : Lx.appTo acc (Lx.lex s.size pos (s.data.toList.drop pos)) = Lx.lex s.size 0 s.data.toList := by
 have := hi.2.2.2
 rwa [Nat.max_eq_left h] at this

theorem inv_blank {s : ByteArray} {acc : List Lx.Tk} {pos n : Nat} (hi : Inv s acc pos n) (hp : pos < s.size) (h : n ≤ pos) (hb : Lx.isBl s[pos] = true) : Inv s acc (pos + 1) n := by
 have h4 := inv_here hi h
 refine ⟨hi.1, hi.2.1, fun h5 => absurd h5 (by omega), ?_⟩
 rw [Nat.max_eq_left (by omega), pass_blank hp hb]
 exact h4

theorem idx_nl (l : List UInt8) : (Lib.indexByte l 10 = -1 ∧ l.dropWhile Lx.notNl = []) ∨ (∃ k : Nat, Lib.indexByte l 10 = (k : Int) ∧ (l.takeWhile Lx.notNl).length = k ∧ l.dropWhile Lx.notNl = l.drop k ∧ ∃ h : k < l.length, (l[k]).toNat = 10) := by
 induction l with
 | nil => exact .inl ⟨rfl, rfl⟩
 | cons c r ih =>
  by_cases hc : c = 10
  ·subst hc
   refine .inr ⟨0, by simp [Lib.indexByte], by simp [Lx.notNl], by simp [Lx.notNl], by simp, rfl⟩
  ·have hn : Lx.notNl c = true := by
    simp only [Lx.notNl, bne_iff_ne]
    intro e
    exact hc (u8_eq (n := 10) (by decide) e)
   have hb : (c == 10) = false := by simpa using hc
   rcases ih with ⟨h1, h2⟩ | ⟨k, h1, h2, h3, h4, h5⟩
   ·refine .inl ⟨by simp [Lib.indexByte, hb, h1], by simp [hn, h2]⟩
   ·refine .inr ⟨k + 1, ?_, by simp [hn, h2], by simp [hn, h3], by simpa using h4, by simpa using h5⟩
    have hk : ((k : Int) == -1) = false := by simp
    simp [Lib.indexByte, hb, h1, hk]

theorem rem_end {s : ByteArray} {acc : List Lx.Tk} {pos n : Nat} (hs : s.size ≤ 3000) (hi : Inv s acc pos n) (hp : pos < s.size) (h : n ≤ pos) (hb : (s[pos]).toNat = 35) (hx : Lib.indexByte (s.data.toList.drop pos) 10 = -1) :
  answer s = (0, 0, acc ++ [⟨0, s.size, [], 0⟩]) := by
 have h4 := inv_here hi h
 refine answer_end hs h4 ?_
 rw [← pass_hash hp hb]
 rcases idx_nl (s.data.toList.drop pos) with ⟨_, h2⟩ | ⟨k, h1, _⟩
 ·unfold Lx.lexRem
  rw [h2, Lx.lex_nil]
 ·rw [hx] at h1
  omega

theorem inv_hash {s : ByteArray} {acc : List Lx.Tk} {pos n k : Nat} (hi : Inv s acc pos n) (hp : pos < s.size) (h : n ≤ pos) (hb : (s[pos]).toNat = 35) (hx : Lib.indexByte (s.data.toList.drop pos) 10 = (k : Int)) :
  Inv s acc (pos + 1) (pos + k) := by
 have h4 := inv_here hi h
 rcases idx_nl (s.data.toList.drop pos) with ⟨h1, _⟩ | ⟨k', h1, h2, h3, h5, h6⟩
 ·rw [hx] at h1
  omega
 ·have hk : k' = k := by rw [hx] at h1; omega
  subst hk
  have hsz : pos + k' < s.size := by simp at h5; omega
  obtain ⟨_, e⟩ := drop_get s pos k' hsz
  have h10 : (s[pos + k']).toNat = 10 := by rw [← e]; exact h6
  have hk0 : k' ≠ 0 := by
   intro e0
   subst e0
   simp only [Nat.add_zero] at h10
   omega
  refine ⟨by omega, by have := hi.2.1; omega, fun _ => .inr ⟨hsz, h10⟩, ?_⟩
  rw [Nat.max_eq_right (by omega)]
  rw [← pass_hash hp hb] at h4
  unfold Lx.lexRem at h4
  rw [h2, h3, List.drop_drop] at h4
  exact h4

theorem takeWhile_get {p : UInt8 → Bool} : ∀ (l : List UInt8) (i : Nat) (_ : i < (l.takeWhile p).length), ∃ h2 : i < l.length, p l[i] = true := by
 intro l
 induction l with
 | nil => intro i h; simp at h
 | cons c r ih =>
  intro i h
  by_cases hc : p c = true
  ·cases i with
   | zero => exact ⟨by simp, hc⟩
   | succ i =>
    simp only [List.takeWhile_cons, hc, if_true, List.length_cons] at h
    obtain ⟨h2, h3⟩ := ih i (by omega)
    exact ⟨by simpa using h2, by simpa using h3⟩
  ·simp [hc] at h

theorem tok_ascii {pos : Nat} {c : UInt8} {r : List UInt8} {t : Lx.Tk} {n : Nat} (h : Lx.tokAt pos (c :: r) = .ok (t, n)) : ∀ i (hi : i < (c :: r).length), i < n → ((c :: r)[i]).toNat < 128 := by
 intro i hi hin
 cases h1 : Lx.isDig c with
 | true =>
  rw [Lx.tokAt_dig pos c r h1] at h
  by_cases h2 : Lx.okNum ((c :: r).takeWhile Lx.isDig) = true
  ·rw [if_pos h2] at h
   simp only [Except.ok.injEq, Prod.mk.injEq] at h
   obtain ⟨_, hp⟩ := takeWhile_get (c :: r) i (by rw [h.2]; exact hin)
   have := (isDig_iff _).1 hp
   omega
  ·rw [if_neg h2] at h; cases h
 | false =>
  cases h2 : Lx.isLet c with
  | true =>
   rw [Lx.tokAt_let pos c r h1 h2] at h
   by_cases h3 : ((c :: r).takeWhile Lx.isNm).length ≤ 20
   ·rw [if_pos h3] at h
    simp only [Except.ok.injEq, Prod.mk.injEq] at h
    obtain ⟨_, hp⟩ := takeWhile_get (c :: r) i (by rw [h.2]; exact hin)
    simp only [Lx.isNm, Bool.or_eq_true] at hp
    rcases hp with hp | hp
    ·have := (isLet_iff _).1 hp; omega
    ·have := (isDig_iff _).1 hp; omega
   ·rw [if_neg h3] at h; cases h
  | false =>
   cases h3 : Lx.isSg c with
   | false => rw [Lx.tokAt_no pos c r h1 h2 h3] at h; cases h
   | true =>
    rw [Lx.tokAt_sg pos c r h1 h2 h3] at h
    simp only [Except.ok.injEq, Prod.mk.injEq] at h
    have hc : c.toNat < 128 := by
     have hall : ∀ x ∈ Lx.sigBytes, x.toNat < 128 := by decide
     exact hall c (List.contains_iff_mem.1 h3)
    cases i with
    | zero => exact hc
    | succ i =>
     have hn2 : Lx.signLen (c :: r) = 2 := by
      have := h.2
      unfold Lx.signLen at this ⊢
      by_cases h4 : Lx.twos.contains ((c :: r).take 2) = true
      ·rw [if_pos h4]
      ·rw [if_neg h4] at this; omega
     have hi0 : i = 0 := by omega
     subst hi0
     cases r with
     | nil => simp at hi
     | cons d r =>
      unfold Lx.signLen at hn2
      by_cases h4 : Lx.twos.contains ((c :: d :: r).take 2) = true
      ·have hall : ∀ x ∈ Lx.twos, ∀ y ∈ x, y.toNat < 128 := by decide
       exact hall _ (List.contains_iff_mem.1 h4) d (by simp)
      ·rw [if_neg h4] at hn2; omega

theorem inv_tok {s : ByteArray} {acc : List Lx.Tk} {pos n m : Nat} {t : Lx.Tk} (hi : Inv s acc pos n) (hp : pos < s.size) (h : n ≤ pos) (hb : Lx.isBl s[pos] = false) (hh : (s[pos]).toNat ≠ 35) (ht : Lx.tokAt pos (s.data.toList.drop pos) = .ok (t, m)) :
  Inv s (acc ++ [t]) (pos + 1) (pos + m) := by
 have h4 := inv_here hi h
 have hl := step_len hp ht
 have hasc := ht
 rw [drop_cons s pos hp] at hasc
 refine ⟨hl.2, by have := hi.2.1; simp; omega, ?_, ?_⟩
 ·intro _
  left
  intro q hq h5 h6
  have hqi : q = pos + (q - pos) := by omega
  obtain ⟨h7, e⟩ := drop_get s pos (q - pos) (by omega)
  have e2 : s[pos + (q - pos)]'(by omega) = s[q] := by congr 1; omega
  rw [← e2, ← e]
  have h8 := tok_ascii hasc (q - pos) (by rw [← drop_cons s pos hp]; exact h7) (by omega)
  simp only [← drop_cons s pos hp] at h8
  exact h8
 ·rw [Nat.max_eq_right (by omega)]
  have e : Lx.lex s.size pos (s.data.toList.drop pos) = Lx.consTo t (Lx.lex s.size (pos + m) (s.data.toList.drop (pos + m))) :=
   step_ok (k := pos) (j := pos) ⟨Nat.le_refl _, by omega, rfl, fun _ => ⟨hb, hh⟩⟩ hp ht
  rw [e, Lx.appTo_cons] at h4
  exact h4

theorem inv_bad {s : ByteArray} {acc : List Lx.Tk} {pos n k p : Nat} (hs : s.size ≤ 3000) (hi : Inv s acc pos n) (hp : pos < s.size) (h : n ≤ pos) (hb : Lx.isBl s[pos] = false) (hh : (s[pos]).toNat ≠ 35) (ht : Lx.tokAt pos (s.data.toList.drop pos) = .error (k, p)) :
  answer s = (k, p, []) :=
 answer_bad hs (inv_here hi h) (step_err (k := pos) (j := pos) ⟨Nat.le_refl _, by omega, rfl, fun _ => ⟨hb, hh⟩⟩ hp ht)

theorem inv_end {s : ByteArray} {acc : List Lx.Tk} {pos n : Nat} (hs : s.size ≤ 3000) (hi : Inv s acc pos n) (hp : ¬ pos < s.size) : answer s = (0, 0, acc ++ [⟨0, s.size, [], 0⟩]) := by
 have h4 := hi.2.2.2
 rw [drop_end s _ (by omega), Lx.lex_nil] at h4
 exact answer_ok hs h4.symm

theorem tok_shift {l : List UInt8} {t : Lx.Tk} {n : Nat} (p : Nat) (h : Lx.tokAt 0 l = .ok (t, n)) : Lx.tokAt p l = .ok (⟨t.kind, p, t.text, t.num⟩, n) := by
 unfold Lx.tokAt at h ⊢
 by_cases h1 : (l.head?.map Lx.isDig).getD false = true
 ·rw [if_pos h1] at h ⊢
  by_cases h2 : Lx.okNum (l.takeWhile Lx.isDig) = true
  ·rw [if_pos h2] at h ⊢
   simp only [Except.ok.injEq, Prod.mk.injEq] at h ⊢
   rw [← h.1, ← h.2]; exact ⟨rfl, rfl⟩
  ·rw [if_neg h2] at h; cases h
 ·rw [if_neg h1] at h ⊢
  by_cases h2 : (l.head?.map Lx.isLet).getD false = true
  ·rw [if_pos h2] at h ⊢
   by_cases h3 : (l.takeWhile Lx.isNm).length ≤ 20
   ·rw [if_pos h3] at h ⊢
    simp only [Except.ok.injEq, Prod.mk.injEq] at h ⊢
    rw [← h.1, ← h.2]; exact ⟨rfl, rfl⟩
   ·rw [if_neg h3] at h; cases h
  ·rw [if_neg h2] at h ⊢
   by_cases h3 : (l.head?.map Lx.isSg).getD false = true
   ·rw [if_pos h3] at h ⊢
    simp only [Except.ok.injEq, Prod.mk.injEq] at h ⊢
    rw [← h.1, ← h.2]; exact ⟨rfl, rfl⟩
   ·rw [if_neg h3] at h; cases h
theorem tok_shift_bad {l : List UInt8} {k : Nat} (p : Nat) (h : Lx.tokAt 0 l = .error (k, 0)) : Lx.tokAt p l = .error (k, p) := by
 unfold Lx.tokAt at h ⊢
 by_cases h1 : (l.head?.map Lx.isDig).getD false = true
 ·rw [if_pos h1] at h ⊢
  by_cases h2 : Lx.okNum (l.takeWhile Lx.isDig) = true
  ·rw [if_pos h2] at h; cases h
  ·rw [if_neg h2] at h ⊢; cases h; rfl
 ·rw [if_neg h1] at h ⊢
  by_cases h2 : (l.head?.map Lx.isLet).getD false = true
  ·rw [if_pos h2] at h ⊢
   by_cases h3 : (l.takeWhile Lx.isNm).length ≤ 20
   ·rw [if_pos h3] at h; cases h
   ·rw [if_neg h3] at h ⊢; cases h; rfl
  ·rw [if_neg h2] at h ⊢
   by_cases h3 : (l.head?.map Lx.isSg).getD false = true
   ·rw [if_pos h3] at h; cases h
   ·rw [if_neg h3] at h ⊢; cases h; rfl

theorem tok_none {s : ByteArray} {pos : Nat} (hp : pos < s.size) (h1 : Lx.isDig s[pos] = false) (h2 : Lx.isLet s[pos] = false) (h3 : Lx.isSg s[pos] = false) : Lx.tokAt pos (s.data.toList.drop pos) = .error (2, pos) := by
 rw [drop_cons s pos hp]
 exact Lx.tokAt_no pos _ _ h1 h2 h3
end Lr
end Go.Proofs.YtoajnlhegallpaaGreatDoor
