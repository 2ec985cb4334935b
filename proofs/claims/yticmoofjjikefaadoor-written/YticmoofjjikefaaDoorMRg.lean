/-
  The program's reader: the head, the end.
  The program's reader: the head for every text, the end, and the lists as plain functions.
-/
import Derived.Test.YticmoofjjikefaaDoorRf6
set_option linter.unusedVariables false
set_option linter.unusedSimpArgs false
namespace Go.Proofs.YticmoofjjikefaaDoor
open Go.RowKit Go.Lib

theorem text1_ok {s : List UInt8} {p : Nat} {c : UInt8} (h : s[p]? = some c) : Cd.Rd.text s 1 (Cd.Rd.at_ p) = ([c], Cd.Rd.at_ (p + 1)) := by
  obtain ⟨hl, hc⟩ := List.getElem?_eq_some_iff.1 h
  unfold Cd.Rd.text
  rw [if_pos (by exact ⟨rfl, by show p + 1 ≤ s.length; omega⟩)]
  show ((s.drop p).take 1, _) = _
  rw [List.drop_eq_getElem_cons hl, hc]
  rfl
theorem text1_no {s : List UInt8} {p : Nat} (h : s.length ≤ p) : Cd.Rd.text s 1 (Cd.Rd.at_ p) = ([], ⟨p, 13, s.length⟩) := by
  unfold Cd.Rd.text
  rw [if_neg (by rintro ⟨_, h2⟩; have h3 : p + 1 ≤ s.length := h2; omega)]
  rfl
def HdPost (w : World) (b : Nat) (s : List UInt8) (r : Cd.Rd) (e : Ending) (w' : World) : Prop := e = .returned (errV r) ∧ (∃ p, p ≤ s.length ∧ PM w' b s p ∧ (r.fk = 0 → r = Cd.Rd.at_ 3 ∧ p = 3)) ∧ w.grownBy w' (some b)
theorem take1_ok {w : World} {b : Nat} {s : List UInt8} {p : Nat} {c : UInt8} (hc : s[p]? = some c) (hs : s.length ≤ 4000000) (h : PM w b s p) :
    Calls Tryd.prog 38 #[.pointer (some ⟨b, 0, none⟩), .int .i64 1] w (fun e w' => e = .returned (.tuple #[.string ⟨#[c]⟩, .nilIface]) ∧ PM w' b s (p + 1) ∧ w.grownBy w' (some b)) := by
  have hl := (List.getElem?_eq_some_iff.1 hc).1
  have := take_c w b s p 1 h hs (by omega) (by omega)
  rw [text1_ok hc] at this
  exact this
theorem take1_no {w : World} {b : Nat} {s : List UInt8} {p : Nat} (hc : s.length = p) (hs : s.length ≤ 4000000) (h : PM w b s p) :
    Calls Tryd.prog 38 #[.pointer (some ⟨b, 0, none⟩), .int .i64 1] w (fun e w' => e = .returned (.tuple #[.string ⟨#[]⟩, .iface 45 (.agg #[.int .i64 13, .int .i64 p])]) ∧ PM w' b s p ∧ w.grownBy w' (some b)) := by
  have := take_c w b s p 1 h hs (by omega) (by omega)
  rw [text1_no (by omega)] at this
  subst hc
  exact this
set_option maxHeartbeats 4000000 in
theorem head_end0  (w : World) (b : Nat) (s : List UInt8) (he : s = []) (h : PM w b s 0) (hs : s.length ≤ 4000000) :
    Calls Tryd.prog 18 #[.pointer (some ⟨b, 0, none⟩)] w (HdPost w b s (⟨3, 13, 0⟩)) := by
  have T0 := hid (fun (V : World) (hv : PM V b s 0) => take1_no (by rw [he]; rfl) hs hv)
  have hlen : 0 ≤ s.length := by rw [he]; simp
  have h0 := h
  clear h he
  go_enter Tryd.func18, Tryd.ntmps18
  go_wp2
  refine wp_loop_rounds 1 ?_
  rw [rounds_succ]
  go_wp2_with (first
    | (go_at_call 38; refine (T0.out _ h0).mono ?_; clear T0; rintro en w1 ⟨rfl, h1, hg1⟩
       replace h1 := hid h1
       replace hg1 := hid hg1)
    | go_in)
  refine bodyPost_ret (v := .iface 45 (.agg #[.int .i64 13, .int .i64 0])) (by simp [results, Tryd.results18, go_sem]) rfl ⟨rfl, ⟨0, hlen, h1.out, fun h => by cases h⟩, hg1.out⟩
set_option maxHeartbeats 4000000 in
theorem head_bad0 (x : UInt8) (t : List UInt8) (hx : x ≠ 69) (w : World) (b : Nat) (s : List UInt8) (he : s = x :: t) (h : PM w b s 0) (hs : s.length ≤ 4000000) :
    Calls Tryd.prog 18 #[.pointer (some ⟨b, 0, none⟩)] w (HdPost w b s (⟨3, 12, 0⟩)) := by
  have T0 := hid (fun (V : World) (hv : PM V b s 0) => take1_ok (c := x) (by rw [he]; rfl) hs hv)
  have hc0 : (!([x] == ((⟨#[69, 70, 49]⟩ : ByteArray).extract 0 1).toList)) = true := by
    rw [show (⟨#[69, 70, 49]⟩ : ByteArray).extract 0 1 = ⟨#[69]⟩ from rfl]
    simp [go_sem, hx]
  have hlen : 1 ≤ s.length := by rw [he]; simp
  have h0 := h
  clear h he
  go_enter Tryd.func18, Tryd.ntmps18
  go_wp2
  refine wp_loop_rounds 1 ?_
  rw [rounds_succ]
  go_wp2_with (first
    | (go_at_call 38; refine (T0.out _ h0).mono ?_; clear T0; rintro en w1 ⟨rfl, h1, hg1⟩
       replace h1 := hid h1
       replace hg1 := hid hg1)
    | go_in)
  refine bodyPost_ret (v := .iface 45 (.agg #[.int .i64 12, .int .i64 0])) (by simp [results, Tryd.results18, go_sem]) rfl ⟨rfl, ⟨1, hlen, h1.out, fun h => by cases h⟩, hg1.out⟩
set_option maxHeartbeats 4000000 in
theorem head_end1  (w : World) (b : Nat) (s : List UInt8) (he : s = [69]) (h : PM w b s 0) (hs : s.length ≤ 4000000) :
    Calls Tryd.prog 18 #[.pointer (some ⟨b, 0, none⟩)] w (HdPost w b s (⟨3, 13, 1⟩)) := by
  have T0 := hid (fun (V : World) (hv : PM V b s 0) => take1_ok (c := 69) (by rw [he]; rfl) hs hv)
  have T1 := hid (fun (V : World) (hv : PM V b s 1) => take1_no (by rw [he]; rfl) hs hv)
  have hc0 : (!([69] == ((⟨#[69, 70, 49]⟩ : ByteArray).extract 0 1).toList)) = false := by
    rw [show (⟨#[69, 70, 49]⟩ : ByteArray).extract 0 1 = ⟨#[69]⟩ from rfl]
    simp [go_sem]
  have hlen : 1 ≤ s.length := by rw [he]; simp
  have h0 := h
  clear h he
  go_enter Tryd.func18, Tryd.ntmps18
  go_wp2
  refine wp_loop_rounds 2 ?_
  rw [rounds_succ]
  go_wp2_with (first
    | (go_at_call 38; refine (T0.out _ h0).mono ?_; clear T0; rintro en w1 ⟨rfl, h1, hg1⟩
       replace h1 := hid h1
       replace hg1 := hid hg1)
    | go_in)
  rw [rounds_succ]
  go_wp2_with (first
    | (go_at_call 38; refine (T1.out _ h1.out).mono ?_; clear T1; rintro en w2 ⟨rfl, h2, hg2⟩
       replace h2 := hid h2
       replace hg2 := hid (grown_trans hg1.out hg2))
    | go_in)
  refine bodyPost_ret (v := .iface 45 (.agg #[.int .i64 13, .int .i64 1])) (by simp [results, Tryd.results18, go_sem]) rfl ⟨rfl, ⟨1, hlen, h2.out, fun h => by cases h⟩, hg2.out⟩
set_option maxHeartbeats 4000000 in
theorem head_bad1 (x : UInt8) (t : List UInt8) (hx : x ≠ 70) (w : World) (b : Nat) (s : List UInt8) (he : s = 69 :: x :: t) (h : PM w b s 0) (hs : s.length ≤ 4000000) :
    Calls Tryd.prog 18 #[.pointer (some ⟨b, 0, none⟩)] w (HdPost w b s (⟨3, 12, 1⟩)) := by
  have T0 := hid (fun (V : World) (hv : PM V b s 0) => take1_ok (c := 69) (by rw [he]; rfl) hs hv)
  have T1 := hid (fun (V : World) (hv : PM V b s 1) => take1_ok (c := x) (by rw [he]; rfl) hs hv)
  have hc0 : (!([69] == ((⟨#[69, 70, 49]⟩ : ByteArray).extract 0 1).toList)) = false := by
    rw [show (⟨#[69, 70, 49]⟩ : ByteArray).extract 0 1 = ⟨#[69]⟩ from rfl]
    simp [go_sem]
  have hc1 : (!([x] == ((⟨#[69, 70, 49]⟩ : ByteArray).extract 1 2).toList)) = true := by
    rw [show (⟨#[69, 70, 49]⟩ : ByteArray).extract 1 2 = ⟨#[70]⟩ from rfl]
    simp [go_sem, hx]
  have hlen : 2 ≤ s.length := by rw [he]; simp
  have h0 := h
  clear h he
  go_enter Tryd.func18, Tryd.ntmps18
  go_wp2
  refine wp_loop_rounds 2 ?_
  rw [rounds_succ]
  go_wp2_with (first
    | (go_at_call 38; refine (T0.out _ h0).mono ?_; clear T0; rintro en w1 ⟨rfl, h1, hg1⟩
       replace h1 := hid h1
       replace hg1 := hid hg1)
    | go_in)
  rw [rounds_succ]
  go_wp2_with (first
    | (go_at_call 38; refine (T1.out _ h1.out).mono ?_; clear T1; rintro en w2 ⟨rfl, h2, hg2⟩
       replace h2 := hid h2
       replace hg2 := hid (grown_trans hg1.out hg2))
    | go_in)
  refine bodyPost_ret (v := .iface 45 (.agg #[.int .i64 12, .int .i64 1])) (by simp [results, Tryd.results18, go_sem]) rfl ⟨rfl, ⟨2, hlen, h2.out, fun h => by cases h⟩, hg2.out⟩
set_option maxHeartbeats 4000000 in
theorem head_end2  (w : World) (b : Nat) (s : List UInt8) (he : s = [69, 70]) (h : PM w b s 0) (hs : s.length ≤ 4000000) :
    Calls Tryd.prog 18 #[.pointer (some ⟨b, 0, none⟩)] w (HdPost w b s (⟨3, 13, 2⟩)) := by
  have T0 := hid (fun (V : World) (hv : PM V b s 0) => take1_ok (c := 69) (by rw [he]; rfl) hs hv)
  have T1 := hid (fun (V : World) (hv : PM V b s 1) => take1_ok (c := 70) (by rw [he]; rfl) hs hv)
  have T2 := hid (fun (V : World) (hv : PM V b s 2) => take1_no (by rw [he]; rfl) hs hv)
  have hc0 : (!([69] == ((⟨#[69, 70, 49]⟩ : ByteArray).extract 0 1).toList)) = false := by
    rw [show (⟨#[69, 70, 49]⟩ : ByteArray).extract 0 1 = ⟨#[69]⟩ from rfl]
    simp [go_sem]
  have hc1 : (!([70] == ((⟨#[69, 70, 49]⟩ : ByteArray).extract 1 2).toList)) = false := by
    rw [show (⟨#[69, 70, 49]⟩ : ByteArray).extract 1 2 = ⟨#[70]⟩ from rfl]
    simp [go_sem]
  have hlen : 2 ≤ s.length := by rw [he]; simp
  have h0 := h
  clear h he
  go_enter Tryd.func18, Tryd.ntmps18
  go_wp2
  refine wp_loop_rounds 3 ?_
  rw [rounds_succ]
  go_wp2_with (first
    | (go_at_call 38; refine (T0.out _ h0).mono ?_; clear T0; rintro en w1 ⟨rfl, h1, hg1⟩
       replace h1 := hid h1
       replace hg1 := hid hg1)
    | go_in)
  rw [rounds_succ]
  go_wp2_with (first
    | (go_at_call 38; refine (T1.out _ h1.out).mono ?_; clear T1; rintro en w2 ⟨rfl, h2, hg2⟩
       replace h2 := hid h2
       replace hg2 := hid (grown_trans hg1.out hg2))
    | go_in)
  rw [rounds_succ]
  go_wp2_with (first
    | (go_at_call 38; refine (T2.out _ h2.out).mono ?_; clear T2; rintro en w3 ⟨rfl, h3, hg3⟩
       replace h3 := hid h3
       replace hg3 := hid (grown_trans hg2.out hg3))
    | go_in)
  refine bodyPost_ret (v := .iface 45 (.agg #[.int .i64 13, .int .i64 2])) (by simp [results, Tryd.results18, go_sem]) rfl ⟨rfl, ⟨2, hlen, h3.out, fun h => by cases h⟩, hg3.out⟩
set_option maxHeartbeats 4000000 in
theorem head_bad2 (x : UInt8) (t : List UInt8) (hx : x ≠ 49) (w : World) (b : Nat) (s : List UInt8) (he : s = 69 :: 70 :: x :: t) (h : PM w b s 0) (hs : s.length ≤ 4000000) :
    Calls Tryd.prog 18 #[.pointer (some ⟨b, 0, none⟩)] w (HdPost w b s (⟨3, 12, 2⟩)) := by
  have T0 := hid (fun (V : World) (hv : PM V b s 0) => take1_ok (c := 69) (by rw [he]; rfl) hs hv)
  have T1 := hid (fun (V : World) (hv : PM V b s 1) => take1_ok (c := 70) (by rw [he]; rfl) hs hv)
  have T2 := hid (fun (V : World) (hv : PM V b s 2) => take1_ok (c := x) (by rw [he]; rfl) hs hv)
  have hc0 : (!([69] == ((⟨#[69, 70, 49]⟩ : ByteArray).extract 0 1).toList)) = false := by
    rw [show (⟨#[69, 70, 49]⟩ : ByteArray).extract 0 1 = ⟨#[69]⟩ from rfl]
    simp [go_sem]
  have hc1 : (!([70] == ((⟨#[69, 70, 49]⟩ : ByteArray).extract 1 2).toList)) = false := by
    rw [show (⟨#[69, 70, 49]⟩ : ByteArray).extract 1 2 = ⟨#[70]⟩ from rfl]
    simp [go_sem]
  have hc2 : (!([x] == ((⟨#[69, 70, 49]⟩ : ByteArray).extract 2 3).toList)) = true := by
    rw [show (⟨#[69, 70, 49]⟩ : ByteArray).extract 2 3 = ⟨#[49]⟩ from rfl]
    simp [go_sem, hx]
  have hlen : 3 ≤ s.length := by rw [he]; simp
  have h0 := h
  clear h he
  go_enter Tryd.func18, Tryd.ntmps18
  go_wp2
  refine wp_loop_rounds 3 ?_
  rw [rounds_succ]
  go_wp2_with (first
    | (go_at_call 38; refine (T0.out _ h0).mono ?_; clear T0; rintro en w1 ⟨rfl, h1, hg1⟩
       replace h1 := hid h1
       replace hg1 := hid hg1)
    | go_in)
  rw [rounds_succ]
  go_wp2_with (first
    | (go_at_call 38; refine (T1.out _ h1.out).mono ?_; clear T1; rintro en w2 ⟨rfl, h2, hg2⟩
       replace h2 := hid h2
       replace hg2 := hid (grown_trans hg1.out hg2))
    | go_in)
  rw [rounds_succ]
  go_wp2_with (first
    | (go_at_call 38; refine (T2.out _ h2.out).mono ?_; clear T2; rintro en w3 ⟨rfl, h3, hg3⟩
       replace h3 := hid h3
       replace hg3 := hid (grown_trans hg2.out hg3))
    | go_in)
  refine bodyPost_ret (v := .iface 45 (.agg #[.int .i64 12, .int .i64 2])) (by simp [results, Tryd.results18, go_sem]) rfl ⟨rfl, ⟨3, hlen, h3.out, fun h => by cases h⟩, hg3.out⟩
set_option maxHeartbeats 4000000 in
theorem head_all3 (t : List UInt8) (w : World) (b : Nat) (s : List UInt8) (he : s = 69 :: 70 :: 49 :: t) (h : PM w b s 0) (hs : s.length ≤ 4000000) :
    Calls Tryd.prog 18 #[.pointer (some ⟨b, 0, none⟩)] w (HdPost w b s (Cd.Rd.at_ 3)) := by
  have T0 := hid (fun (V : World) (hv : PM V b s 0) => take1_ok (c := 69) (by rw [he]; rfl) hs hv)
  have T1 := hid (fun (V : World) (hv : PM V b s 1) => take1_ok (c := 70) (by rw [he]; rfl) hs hv)
  have T2 := hid (fun (V : World) (hv : PM V b s 2) => take1_ok (c := 49) (by rw [he]; rfl) hs hv)
  have hc0 : (!([69] == ((⟨#[69, 70, 49]⟩ : ByteArray).extract 0 1).toList)) = false := by
    rw [show (⟨#[69, 70, 49]⟩ : ByteArray).extract 0 1 = ⟨#[69]⟩ from rfl]
    simp [go_sem]
  have hc1 : (!([70] == ((⟨#[69, 70, 49]⟩ : ByteArray).extract 1 2).toList)) = false := by
    rw [show (⟨#[69, 70, 49]⟩ : ByteArray).extract 1 2 = ⟨#[70]⟩ from rfl]
    simp [go_sem]
  have hc2 : (!([49] == ((⟨#[69, 70, 49]⟩ : ByteArray).extract 2 3).toList)) = false := by
    rw [show (⟨#[69, 70, 49]⟩ : ByteArray).extract 2 3 = ⟨#[49]⟩ from rfl]
    simp [go_sem]
  have hlen : 3 ≤ s.length := by rw [he]; simp
  have h0 := h
  clear h he
  go_enter Tryd.func18, Tryd.ntmps18
  go_wp2
  refine wp_loop_rounds 4 ?_
  rw [rounds_succ]
  go_wp2_with (first
    | (go_at_call 38; refine (T0.out _ h0).mono ?_; clear T0; rintro en w1 ⟨rfl, h1, hg1⟩
       replace h1 := hid h1
       replace hg1 := hid hg1)
    | go_in)
  rw [rounds_succ]
  go_wp2_with (first
    | (go_at_call 38; refine (T1.out _ h1.out).mono ?_; clear T1; rintro en w2 ⟨rfl, h2, hg2⟩
       replace h2 := hid h2
       replace hg2 := hid (grown_trans hg1.out hg2))
    | go_in)
  rw [rounds_succ]
  go_wp2_with (first
    | (go_at_call 38; refine (T2.out _ h2.out).mono ?_; clear T2; rintro en w3 ⟨rfl, h3, hg3⟩
       replace h3 := hid h3
       replace hg3 := hid (grown_trans hg2.out hg3))
    | go_in)
  rw [rounds_succ]
  go_wp2
  refine bodyPost_ret (v := .nilIface) (by simp [results, Tryd.results18, go_sem]) rfl ⟨rfl, ⟨3, hlen, h3.out, fun _ => ⟨rfl, rfl⟩⟩, hg3.out⟩
end Go.Proofs.YticmoofjjikefaaDoor

namespace Go.Proofs.YticmoofjjikefaaDoor
open Go.RowKit Go.Lib

theorem dhead_c (w : World) (b : Nat) (s : List UInt8) (h : PM w b s 0) (hs : s.length ≤ 4000000) :
    Calls Tryd.prog 18 #[.pointer (some ⟨b, 0, none⟩)] w (HdPost w b s (Cd.Rd.head s 3 (Cd.Rd.at_ 3))) := by
  obtain ⟨r, hr⟩ : ∃ r, Cd.Rd.head s 3 (Cd.Rd.at_ 3) = r := ⟨_, rfl⟩
  obtain ⟨l, hl⟩ : ∃ l, s = l := ⟨_, rfl⟩
  rw [hr]
  rw [hl] at hr
  rcases l with _ | ⟨x, l⟩
  · obtain rfl : (⟨3, 13, 0⟩ : Cd.Rd) = r := by rw [← hr]; simp [Cd.Rd.head, Cd.head, Cd.Rd.no, Cd.Rd.at_]
    exact head_end0 w b s hl h hs
  by_cases hx : x = 69
  · subst hx
    rcases l with _ | ⟨x, l⟩
    · obtain rfl : (⟨3, 13, 1⟩ : Cd.Rd) = r := by rw [← hr]; simp [Cd.Rd.head, Cd.head, Cd.Rd.no, Cd.Rd.at_]
      exact head_end1 w b s hl h hs
    by_cases hx : x = 70
    · subst hx
      rcases l with _ | ⟨x, l⟩
      · obtain rfl : (⟨3, 13, 2⟩ : Cd.Rd) = r := by rw [← hr]; simp [Cd.Rd.head, Cd.head, Cd.Rd.no, Cd.Rd.at_]
        exact head_end2 w b s hl h hs
      by_cases hx : x = 49
      · subst hx
        obtain rfl : Cd.Rd.at_ 3 = r := by rw [← hr]; simp [Cd.Rd.head, Cd.head, Cd.Rd.at_]
        exact head_all3 l w b s hl h hs
      · obtain rfl : (⟨3, 12, 2⟩ : Cd.Rd) = r := by rw [← hr]; simp [Cd.Rd.head, Cd.head, Cd.Rd.no, Cd.Rd.at_, hx]
        exact head_bad2 x l hx w b s hl h hs
    · obtain rfl : (⟨3, 12, 1⟩ : Cd.Rd) = r := by
        rw [← hr]
        rcases l with _ | ⟨y, l⟩ <;> simp [Cd.Rd.head, Cd.head, Cd.Rd.no, Cd.Rd.at_, hx]
      exact head_bad1 x l hx w b s hl h hs
  · obtain rfl : (⟨3, 12, 0⟩ : Cd.Rd) = r := by
      rw [← hr]
      rcases l with _ | ⟨y, _ | ⟨z, l⟩⟩ <;> simp [Cd.Rd.head, Cd.head, Cd.Rd.no, Cd.Rd.at_, hx]
      all_goals (repeat' split) <;> simp_all
    exact head_bad0 x l hx w b s hl h hs

def endR (s : List UInt8) (r : Cd.Rd) : Cd.Rd := if r.fk = 0 ∧ r.pos < s.length then r.no 13 r.pos else r
set_option maxHeartbeats 2000000 in
theorem dend_c (w : World) (b : Nat) (s : List UInt8) (p : Nat) (h : PM w b s p) (hs : s.length ≤ 4000000) (hp : p ≤ s.length) :
    Calls Tryd.prog 26 #[.pointer (some ⟨b, 0, none⟩)] w (fun e w' => e = .returned (errV (endR s (Cd.Rd.at_ p))) ∧ ∃ n, w' = w.drewN n) := by
  obtain ⟨c0, c1, hf⟩ := h.cells
  have HL := hid (left_c w b s p h hs hp)
  unfold ptrV at HL
  clear h
  by_cases hl : p < s.length
  · have e : errV (endR s (Cd.Rd.at_ p)) = .iface 45 (.agg #[.int .i64 13, .int .i64 p]) := by
      unfold endR
      rw [if_pos ⟨rfl, hl⟩]
      rfl
    rw [e]
    have hg : (0 : Int) < ((s.length - p : Nat) : Int) := by omega
    generalize s.length - p = L at HL hg
    go_enter Tryd.func26, Tryd.ntmps26
    go_wp2_with (first
      | (go_at_call 42; refine HL.out.mono ?_; clear HL; rintro en w1 ⟨rfl, n1, hw1⟩; obtain rfl := hw1)
      | go_in)
    go_ret
    exact ⟨rfl, _, rfl⟩
  · have e : errV (endR s (Cd.Rd.at_ p)) = .nilIface := by
      unfold endR
      rw [if_neg (fun h => hl h.2)]
      rfl
    rw [e]
    have hL0 : s.length - p = 0 := by omega
    rw [hL0] at HL
    go_enter Tryd.func26, Tryd.ntmps26
    go_wp2_with (first
      | (go_at_call 42; refine HL.out.mono ?_; clear HL; rintro en w1 ⟨rfl, n1, hw1⟩; obtain rfl := hw1)
      | go_in)
    go_ret
    exact ⟨rfl, _, rfl⟩

theorem hans_many (s : List UInt8) : ∀ (n : Nat) (r : Cd.Rd), Cd.Rd.hansL s n r = Cd.Rd.manyL (fun r => r.han s) n r
  | 0, _ => rfl
  | n + 1, r => by
    unfold Cd.Rd.hansL Cd.Rd.manyL
    by_cases h : r.fk = 0
    · rw [if_pos h, if_pos h]
      dsimp only
      rw [hans_many s n]
    · rw [if_neg h, if_neg h]
theorem funs_many (s : List UInt8) : ∀ (n : Nat) (r : Cd.Rd), Cd.Rd.funsL s n r = Cd.Rd.manyL (fun r => r.fn s) n r
  | 0, _ => rfl
  | n + 1, r => by
    unfold Cd.Rd.funsL Cd.Rd.manyL
    by_cases h : r.fk = 0
    · rw [if_pos h, if_pos h]
      dsimp only
      rw [funs_many s n]
    · rw [if_neg h, if_neg h]
theorem num_back1 {s : List UInt8} {r : Cd.Rd} {m : Nat} (h : m < (r.num s 1).1) : (r.num s 1).2.pos - 1 = r.pos := by
  unfold Cd.Rd.num at h ⊢
  split
  · simp
  · rename_i hh; rw [if_neg hh] at h; simp at h
theorem gop_eq (s : List UInt8) (r : Cd.Rd) : gOp s r = (⟨((if 20 < (r.num s 1).1 then (r.num s 1).2.no 14 ((r.num s 1).2.pos - 1) else (r.num s 1).2).text s (r.num s 1).1).1, (((if 20 < (r.num s 1).1 then (r.num s 1).2.no 14 ((r.num s 1).2.pos - 1) else (r.num s 1).2).text s (r.num s 1).1).2.flag s).1⟩, (((if 20 < (r.num s 1).1 then (r.num s 1).2.no 14 ((r.num s 1).2.pos - 1) else (r.num s 1).2).text s (r.num s 1).1).2.flag s).2) := by
  unfold gOp Cd.Rd.txt
  dsimp only
  by_cases h : 20 < (r.num s 1).1
  · rw [num_back1 h]
  · rw [if_neg h, if_neg h]
theorem ops_many (s : List UInt8) : ∀ (n : Nat) (r : Cd.Rd), Cd.Rd.opsL s n r = Cd.Rd.manyL (gOp s) n r
  | 0, _ => rfl
  | n + 1, r => by
    unfold Cd.Rd.opsL Cd.Rd.manyL
    by_cases h : r.fk = 0
    · rw [if_pos h, if_pos h]
      dsimp only
      rw [ops_many s n, gop_eq]
    · rw [if_neg h, if_neg h]
theorem txt_big (s : List UInt8) (p : Nat) : Cd.Rd.txt s 2 65535 (Cd.Rd.at_ p) = (Cd.Rd.num s 2 (Cd.Rd.at_ p)).2.text s (Cd.Rd.num s 2 (Cd.Rd.at_ p)).1 := by
  unfold Cd.Rd.txt
  dsimp only
  rw [if_neg (by have := num_lt2 s p 2 (by omega); omega)]
theorem code_eq (s : List UInt8) (p : Nat) : Cd.Rd.code s (Cd.Rd.at_ p) =
    let t := Cd.Rd.txt s 2 65535 (Cd.Rd.at_ p)
    let o := Cd.Rd.manyL (gOp s) (t.2.num s 1).1 (t.2.num s 1).2
    let h := Cd.Rd.manyL (fun r => r.han s) (o.2.num s 2).1 (o.2.num s 2).2
    let f := Cd.Rd.manyL (fun r => r.fn s) (h.2.num s 2).1 (h.2.num s 2).2
    (⟨t.1, o.1, h.1, f.1⟩, endR s f.2) := by
  unfold Cd.Rd.code endR
  dsimp only
  rw [← txt_big, ops_many, hans_many, funs_many]
end Go.Proofs.YticmoofjjikefaaDoor
