/-
  The program's printer: handlers.
  The program's printer: lets and defs, truths and numbers.
  The program's printer: clauses.
-/
import Derived.Test.YtoajnlhegallpaaGreatDoorMPm
set_option linter.unusedVariables false
set_option linter.unusedSimpArgs false
set_option maxRecDepth 100000
set_option maxHeartbeats 8000000
namespace Go.Proofs.YtoajnlhegallpaaGreatDoor
open Go.RowKit
open Sy (Tr)

theorem hand_A1 (w0 : World) (B b : Nat) (p : Int) (x : List UInt8) (g o : Nat) (k0 p0 : Int) (n0 : ByteArray) (m0 : Int) (v0 : Value) (k1 p1 : Int) (n1 : ByteArray) (m1 : Int) (v1 : Value) (t0 t1 : List (List UInt8)) (hB0 : w0.heap.size ≤ B) (hg : g < w0.heap.size)
  (E0 : Nod w0 g o k0 p0 n0 m0 v0) (E1 : Nod w0 g (o + 5) k1 p1 n1 m1 v1)
  (h0 : WP w0 B b (Value.agg #[.int .i64 k0, .int .i64 p0, .string n0, .int .i64 m0, v0]) 0 t0) (h1 : WP w0 B b (Value.agg #[.int .i64 k1, .int .i64 p1, .string n1, .int .i64 m1, v1]) 0 t1) :
  ∀ (w : World) (l : List (List UInt8)), B ≤ w.heap.size → Below w0.heap.size w0 w → PrAt B b l w → l.length + (([115, 104, 97, 108, 108, 111, 119] :: t0) ++ [[119, 105, 116, 104]] ++ ([123] :: t1) ++ [[125]]).length ≤ 900000 →
  Calls Tryz.prog 87 #[.pointer (some ⟨b, 0, none⟩), .agg #[.int .i64 20, .int .i64 p, .string ⟨x.toArray⟩, .int .i64 1, .slice (some ⟨g, o, none⟩) 2 2]] w fun e w' => PPost w B b (l ++ (([115, 104, 97, 108, 108, 111, 119] :: t0) ++ [[119, 105, 116, 104]] ++ ([123] :: t1) ++ [[125]])) e w' := by
 intro w l hB hnn hp hl
 have hbH : w.heap.size ≠ b := by have := pr_lt hp; omega
 have H0 := hid h0
 have H1 := hid h1
 have F0 := hid E0
 have F1 := hid E1
 have hl2 := hl
 simp only [List.length_append, List.length_cons, List.length_nil] at hl2
 clear hl h0 h1 E0 E1
 obtain ⟨W0, hW0⟩ : ∃ W, W = w.alloc (.cells #[.int .i64 20, .int .i64 p, .string ⟨x.toArray⟩, .int .i64 1, .slice (some ⟨g, o, none⟩) 2 2] 24) := ⟨_, rfl⟩
 have HW0 : Hid (Pw w0 w W0 B b w.heap.size #[.int .i64 20, .int .i64 p, .string ⟨x.toArray⟩, .int .i64 1, .slice (some ⟨g, o, none⟩) 2 2] l) := by rw [hW0]; exact Pw.start _ hp hB hnn
 clear hp hnn
 go_enter Tryz.func87, Tryz.ntmps87
 go_upto_region 1 with fail
 rw [← hW0]
 clear hW0
 have a3_0 := HW0.out.cell 3 _ rfl
 have a4_0 := HW0.out.cell 4 _ rfl
 obtain ⟨f00, f01, f02, f03, f04⟩ := Nod.past F0.out hg HW0.out.new
 go_wp2_with fail
 refine (behind_any w0 B b [115, 104, 97, 108, 108, 111, 119] t0 hB0 H0.out _ _ HW0.out.sz HW0.out.new HW0.out.pr (by simp only [List.length_cons]; omega)).mono ?_
 rintro e w1 ⟨rfl, P1, P2, P3⟩
 have HW1 := hid (HW0.out.said hbH hB0 P1.out P2.out P3.out)
 clear P1 P2 P3 a3_0 a4_0 f00 f01 f02 f03 f04
 go_wp2_with fail
 refine (say1 HW1.out hbH hB0 [119, 105, 116, 104] (by simp only [List.length_append, List.length_cons]; omega)).mono ?_
 rintro e w2 ⟨rfl, HW2⟩
 have a4_2 := HW2.out.cell 4 _ rfl
 obtain ⟨f10, f11, f12, f13, f14⟩ := Nod.past F1.out hg HW2.out.new
 go_wp2_with fail
 refine (behind_any w0 B b [123] t1 hB0 H1.out _ _ HW2.out.sz HW2.out.new HW2.out.pr (by simp only [List.length_append, List.length_cons, List.length_nil]; omega)).mono ?_
 rintro e w3 ⟨rfl, P1, P2, P3⟩
 have HW3 := hid (HW2.out.said hbH hB0 P1.out P2.out P3.out)
 clear P1 P2 P3 a4_2 f10 f11 f12 f13 f14
 have a4_3 := HW3.out.cell 4 _ rfl
 go_wp2_with fail
 go_loopw [30] (fun v wr => v = .int .i64 0 ∧ wr = w3) (fun _ _ => 0)
 case atStart => exact ⟨rfl, rfl⟩
 case round =>
  obtain ⟨rfl, rfl⟩ := hrel
  go_wp2_with fail
  refine (say1 HW3.out hbH hB0 [125] (by simp only [List.length_append, List.length_cons, List.length_nil]; omega)).mono ?_
  rintro e w4 ⟨rfl, HW4⟩
  go_wp2_with fail
  go_end0
  exact HW4.out.fin (by simp)

theorem hand_B1 (w0 : World) (B b : Nat) (p : Int) (x : List UInt8) (g o c L n : Nat) (ks : List Tr) (va : Nat → Option Addr) (vl vc : Nat → Nat) (f : Tr → List (List UInt8)) (k0 p0 : Int) (n0 : ByteArray) (m0 : Int) (v0 : Value) (k1 p1 : Int) (n1 : ByteArray) (m1 : Int) (v1 : Value) (t0 t1 : List (List UInt8)) (hB0 : w0.heap.size ≤ B) (hg : g < w0.heap.size)
  (hn : n = ks.length) (hL : L = n + 2) (hLb : n ≤ 90000) (_hc : L ≤ c) (hc2 : ¬ c = 2)
  (E0 : Nod w0 g o k0 p0 n0 m0 v0) (E1 : Nod w0 g (o + 5) k1 p1 n1 m1 v1)
  (h0 : WP w0 B b (Value.agg #[.int .i64 k0, .int .i64 p0, .string n0, .int .i64 m0, v0]) 0 t0) (h1 : WP w0 B b (Value.agg #[.int .i64 k1, .int .i64 p1, .string n1, .int .i64 m1, v1]) 0 t1)
  (hN : ∀ j (h : j < ks.length), Nod w0 g (o + 10 + j * 5) ks[j].kind ks[j].pos ⟨ks[j].name.toArray⟩ ks[j].num (.slice (va j) (vl j) (vc j)) ∧ WP w0 B b (.agg #[.int .i64 ks[j].kind, .int .i64 ks[j].pos, .string ⟨ks[j].name.toArray⟩, .int .i64 ks[j].num, .slice (va j) (vl j) (vc j)]) 0 (f ks[j])) :
  ∀ (w : World) (l : List (List UInt8)), B ≤ w.heap.size → Below w0.heap.size w0 w → PrAt B b l w → l.length + (([115, 104, 97, 108, 108, 111, 119] :: t0) ++ [[119, 105, 116, 104]] ++ ([123] :: t1) ++ ks.flatMap (fun k => [124] :: f k) ++ [[125]]).length ≤ 900000 →
  Calls Tryz.prog 87 #[.pointer (some ⟨b, 0, none⟩), .agg #[.int .i64 20, .int .i64 p, .string ⟨x.toArray⟩, .int .i64 1, .slice (some ⟨g, o, none⟩) L c]] w fun e w' => PPost w B b (l ++ (([115, 104, 97, 108, 108, 111, 119] :: t0) ++ [[119, 105, 116, 104]] ++ ([123] :: t1) ++ ks.flatMap (fun k => [124] :: f k) ++ [[125]])) e w' := by
 intro w l hB hnn hp hl
 obtain ⟨F, hF⟩ : ∃ F : Tr → List (List UInt8), F = fun k => [124] :: f k := ⟨_, rfl⟩
 have HFF := hid hF
 rw [← hF] at hl ⊢
 clear hF
 have hbH : w.heap.size ≠ b := by have := pr_lt hp; omega
 have H0 := hid h0
 have H1 := hid h1
 have F0 := hid E0
 have F1 := hid E1
 have hl2 := hl
 simp only [List.length_append, List.length_cons, List.length_nil] at hl2
 have HNN := hid hN
 have HLA := hid hn
 have hL1 : L ≤ n + 2 := by omega
 have hL2 : n + 2 ≤ L := by omega
 clear hN hn hL
 clear hl h0 h1 E0 E1
 obtain ⟨W0, hW0⟩ : ∃ W, W = w.alloc (.cells #[.int .i64 20, .int .i64 p, .string ⟨x.toArray⟩, .int .i64 1, .slice (some ⟨g, o, none⟩) L c] 24) := ⟨_, rfl⟩
 have HW0 : Hid (Pw w0 w W0 B b w.heap.size #[.int .i64 20, .int .i64 p, .string ⟨x.toArray⟩, .int .i64 1, .slice (some ⟨g, o, none⟩) L c] l) := by rw [hW0]; exact Pw.start _ hp hB hnn
 clear hp hnn
 go_enter Tryz.func87, Tryz.ntmps87
 go_upto_region 1 with fail
 rw [← hW0]
 clear hW0
 have a3_0 := HW0.out.cell 3 _ rfl
 have a4_0 := HW0.out.cell 4 _ rfl
 obtain ⟨f00, f01, f02, f03, f04⟩ := Nod.past F0.out hg HW0.out.new
 go_wp2_with fail
 refine (behind_any w0 B b [115, 104, 97, 108, 108, 111, 119] t0 hB0 H0.out _ _ HW0.out.sz HW0.out.new HW0.out.pr (by simp only [List.length_cons]; omega)).mono ?_
 rintro e w1 ⟨rfl, P1, P2, P3⟩
 have HW1 := hid (HW0.out.said hbH hB0 P1.out P2.out P3.out)
 clear P1 P2 P3 a3_0 a4_0 f00 f01 f02 f03 f04
 go_wp2_with fail
 refine (say1 HW1.out hbH hB0 [119, 105, 116, 104] (by simp only [List.length_append, List.length_cons]; omega)).mono ?_
 rintro e w2 ⟨rfl, HW2⟩
 have a4_2 := HW2.out.cell 4 _ rfl
 obtain ⟨f10, f11, f12, f13, f14⟩ := Nod.past F1.out hg HW2.out.new
 go_wp2_with fail
 refine (behind_any w0 B b [123] t1 hB0 H1.out _ _ HW2.out.sz HW2.out.new HW2.out.pr (by simp only [List.length_append, List.length_cons, List.length_nil]; omega)).mono ?_
 rintro e w3 ⟨rfl, P1, P2, P3⟩
 have HW3 := hid (HW2.out.said hbH hB0 P1.out P2.out P3.out)
 clear P1 P2 P3 a4_2 f10 f11 f12 f13 f14
 have a4_3 := HW3.out.cell 4 _ rfl
 go_wp2_with fail
 obtain ⟨l3, hl3⟩ : ∃ l3, l3 = l ++ [115, 104, 97, 108, 108, 111, 119] :: t0 ++ [[119, 105, 116, 104]] ++ [123] :: t1 := ⟨_, rfl⟩
 have HL3 := hid hl3
 have hll : l3.length + ((ks.flatMap F).length + 1) ≤ 900000 := by rw [hl3]; simp only [List.length_append, List.length_cons, List.length_nil]; omega
 rw [← hl3] at HW3
 clear hl3
 go_loopw [30] (fun v wr => ∃ q : Nat, v = .int .i64 q ∧ q ≤ n ∧ Hid (Pw w0 w wr B b w.heap.size #[.int .i64 20, .int .i64 p, .string ⟨x.toArray⟩, .int .i64 1, .slice (some ⟨g, o, none⟩) L c] (l3 ++ (ks.take q).flatMap F))) (fun v _ => n - (intOf v).toNat)
 case atStart => exact ⟨0, rfl, Nat.zero_le _, by simpa using HW3⟩
 case round =>
  obtain ⟨q, rfl, hq, HS⟩ := hrel
  by_cases hlt : q < n
  ·have hlt2 : q < ks.length := by rw [← HLA.out]; exact hlt
   obtain ⟨hnod, hwp⟩ := HNN.out q hlt2
   have HST := hid (flat_step F ks q hlt2)
   have hlen : l3.length + ((ks.take q).flatMap F).length + (F ks[q]).length ≤ 900000 := by
    have h1 := flat_len_le F ks (q + 1)
    rw [HST.out, List.length_append] at h1
    omega
   have hFq : F ks[q] = [124] :: f ks[q] := by rw [HFF.out]
   rw [hFq] at HST hlen
   have HWP := hid hwp
   clear hFq
   generalize ks[q] = t at hnod HWP HST hlen
   obtain ⟨f0, f1, f2, f3, f4⟩ := Nod.past hnod hg HS.out.new
   have hgn : ¬ g = wr.heap.size := by have := HS.out.new.size; omega
   clear hwp hnod
   have hqi2 : (q : Int) < ((L - 2 : Nat) : Int) := by omega
   generalize va q = va1 at f4 HWP
   generalize vl q = vl1 at f4 HWP
   generalize vc q = vc1 at f4 HWP
   generalize (t.kind : Int) = tk at f0 HWP
   generalize (t.pos : Int) = tp at f1 HWP
   generalize t.name = tn at f2 HWP
   generalize t.num = tm at f3 HWP
   go_upto_region 10 with fail
   obtain ⟨X, hX⟩ : ∃ X, X = wr.alloc (.cells #[.int .i64 tk, .int .i64 tp, .string ⟨tn.toArray⟩, .int .i64 tm, .slice va1 vl1 vc1] 24) := ⟨_, rfl⟩
   rw [← hX]
   have HX : Hid (Pw w0 w X B b w.heap.size #[.int .i64 20, .int .i64 p, .string ⟨x.toArray⟩, .int .i64 1, .slice (some ⟨g, o, none⟩) L c] (l3 ++ (ks.take q).flatMap F)) := by rw [hX]; exact HS.out.past ((Below.refl _ _).alloc (Nat.le_refl _) _)
   have c0 : X.cell? ⟨wr.heap.size, 0, none⟩ = some (.int .i64 tk) := by rw [hX]; simp [go_sem]
   have c1 : X.cell? ⟨wr.heap.size, 1, none⟩ = some (.int .i64 tp) := by rw [hX]; simp [go_sem]
   have c2 : X.cell? ⟨wr.heap.size, 2, none⟩ = some (.string ⟨tn.toArray⟩) := by rw [hX]; simp [go_sem]
   have c3 : X.cell? ⟨wr.heap.size, 3, none⟩ = some (.int .i64 tm) := by rw [hX]; simp [go_sem]
   have c4 : X.cell? ⟨wr.heap.size, 4, none⟩ = some (.slice va1 vl1 vc1) := by rw [hX]; simp [go_sem]
   clear hX f0 f1 f2 f3 f4
   go_wp2_with fail
   refine (behind_any w0 B b [124] (f t) hB0 HWP.out _ _ HX.out.sz HX.out.new HX.out.pr (by rw [List.length_append]; omega)).mono ?_
   rintro e w4 ⟨rfl, P1, P2, P3⟩
   have HS2 := hid (HX.out.said hbH hB0 P1.out P2.out P3.out)
   go_wp2_with fail
   go_roundw
   case rel => exact ⟨q + 1, by go_num, by omega, by rw [HST.out, ← List.append_assoc]; exact HS2⟩
   case measure => simp [intOf] <;> omega
  ·have hqe : q = ks.length := by have := HLA.out; omega
   have HE : Hid (ks.take q = ks) := by rw [hqe]; exact List.take_length
   have hqq2 : ¬ (q : Int) < ((L - 2 : Nat) : Int) := by omega
   rw [HE.out] at HS
   clear hqe
   go_wp2_with fail
   refine (say1 HS.out hbH hB0 [125] (by rw [List.length_append]; omega)).mono ?_
   rintro e w4 ⟨rfl, HW4⟩
   go_wp2_with fail
   go_end0
   exact HW4.out.fin (by rw [HL3.out]; simp)

theorem hand_A0 (w0 : World) (B b : Nat) (p m : Int) (x : List UInt8) (g o : Nat) (k0 p0 : Int) (n0 : ByteArray) (m0 : Int) (v0 : Value) (k1 p1 : Int) (n1 : ByteArray) (m1 : Int) (v1 : Value) (t0 t1 : List (List UInt8)) (hB0 : w0.heap.size ≤ B) (hg : g < w0.heap.size) (hm : ¬ m = 1)
  (E0 : Nod w0 g o k0 p0 n0 m0 v0) (E1 : Nod w0 g (o + 5) k1 p1 n1 m1 v1)
  (h0 : WP w0 B b (Value.agg #[.int .i64 k0, .int .i64 p0, .string n0, .int .i64 m0, v0]) 0 t0) (h1 : WP w0 B b (Value.agg #[.int .i64 k1, .int .i64 p1, .string n1, .int .i64 m1, v1]) 0 t1) :
  ∀ (w : World) (l : List (List UInt8)), B ≤ w.heap.size → Below w0.heap.size w0 w → PrAt B b l w → l.length + (([104, 97, 110, 100, 108, 101] :: t0) ++ [[119, 105, 116, 104]] ++ ([123] :: t1) ++ [[125]]).length ≤ 900000 →
  Calls Tryz.prog 87 #[.pointer (some ⟨b, 0, none⟩), .agg #[.int .i64 20, .int .i64 p, .string ⟨x.toArray⟩, .int .i64 m, .slice (some ⟨g, o, none⟩) 2 2]] w fun e w' => PPost w B b (l ++ (([104, 97, 110, 100, 108, 101] :: t0) ++ [[119, 105, 116, 104]] ++ ([123] :: t1) ++ [[125]])) e w' := by
 intro w l hB hnn hp hl
 have hbH : w.heap.size ≠ b := by have := pr_lt hp; omega
 have H0 := hid h0
 have H1 := hid h1
 have F0 := hid E0
 have F1 := hid E1
 have hl2 := hl
 simp only [List.length_append, List.length_cons, List.length_nil] at hl2
 clear hl h0 h1 E0 E1
 obtain ⟨W0, hW0⟩ : ∃ W, W = w.alloc (.cells #[.int .i64 20, .int .i64 p, .string ⟨x.toArray⟩, .int .i64 m, .slice (some ⟨g, o, none⟩) 2 2] 24) := ⟨_, rfl⟩
 have HW0 : Hid (Pw w0 w W0 B b w.heap.size #[.int .i64 20, .int .i64 p, .string ⟨x.toArray⟩, .int .i64 m, .slice (some ⟨g, o, none⟩) 2 2] l) := by rw [hW0]; exact Pw.start _ hp hB hnn
 clear hp hnn
 go_enter Tryz.func87, Tryz.ntmps87
 go_upto_region 1 with fail
 rw [← hW0]
 clear hW0
 have a3_0 := HW0.out.cell 3 _ rfl
 have a4_0 := HW0.out.cell 4 _ rfl
 obtain ⟨f00, f01, f02, f03, f04⟩ := Nod.past F0.out hg HW0.out.new
 go_wp2_with fail
 refine (behind_any w0 B b [104, 97, 110, 100, 108, 101] t0 hB0 H0.out _ _ HW0.out.sz HW0.out.new HW0.out.pr (by simp only [List.length_cons]; omega)).mono ?_
 rintro e w1 ⟨rfl, P1, P2, P3⟩
 have HW1 := hid (HW0.out.said hbH hB0 P1.out P2.out P3.out)
 clear P1 P2 P3 a3_0 a4_0 f00 f01 f02 f03 f04
 go_wp2_with fail
 refine (say1 HW1.out hbH hB0 [119, 105, 116, 104] (by simp only [List.length_append, List.length_cons]; omega)).mono ?_
 rintro e w2 ⟨rfl, HW2⟩
 have a4_2 := HW2.out.cell 4 _ rfl
 obtain ⟨f10, f11, f12, f13, f14⟩ := Nod.past F1.out hg HW2.out.new
 go_wp2_with fail
 refine (behind_any w0 B b [123] t1 hB0 H1.out _ _ HW2.out.sz HW2.out.new HW2.out.pr (by simp only [List.length_append, List.length_cons, List.length_nil]; omega)).mono ?_
 rintro e w3 ⟨rfl, P1, P2, P3⟩
 have HW3 := hid (HW2.out.said hbH hB0 P1.out P2.out P3.out)
 clear P1 P2 P3 a4_2 f10 f11 f12 f13 f14
 have a4_3 := HW3.out.cell 4 _ rfl
 go_wp2_with fail
 go_loopw [30] (fun v wr => v = .int .i64 0 ∧ wr = w3) (fun _ _ => 0)
 case atStart => exact ⟨rfl, rfl⟩
 case round =>
  obtain ⟨rfl, rfl⟩ := hrel
  go_wp2_with fail
  refine (say1 HW3.out hbH hB0 [125] (by simp only [List.length_append, List.length_cons, List.length_nil]; omega)).mono ?_
  rintro e w4 ⟨rfl, HW4⟩
  go_wp2_with fail
  go_end0
  exact HW4.out.fin (by simp)

theorem hand_B0 (w0 : World) (B b : Nat) (p m : Int) (x : List UInt8) (g o c L n : Nat) (ks : List Tr) (va : Nat → Option Addr) (vl vc : Nat → Nat) (f : Tr → List (List UInt8)) (k0 p0 : Int) (n0 : ByteArray) (m0 : Int) (v0 : Value) (k1 p1 : Int) (n1 : ByteArray) (m1 : Int) (v1 : Value) (t0 t1 : List (List UInt8)) (hB0 : w0.heap.size ≤ B) (hg : g < w0.heap.size)
  (hn : n = ks.length) (hL : L = n + 2) (hLb : n ≤ 90000) (_hc : L ≤ c) (hc2 : ¬ c = 2) (hm : ¬ m = 1)
  (E0 : Nod w0 g o k0 p0 n0 m0 v0) (E1 : Nod w0 g (o + 5) k1 p1 n1 m1 v1)
  (h0 : WP w0 B b (Value.agg #[.int .i64 k0, .int .i64 p0, .string n0, .int .i64 m0, v0]) 0 t0) (h1 : WP w0 B b (Value.agg #[.int .i64 k1, .int .i64 p1, .string n1, .int .i64 m1, v1]) 0 t1)
  (hN : ∀ j (h : j < ks.length), Nod w0 g (o + 10 + j * 5) ks[j].kind ks[j].pos ⟨ks[j].name.toArray⟩ ks[j].num (.slice (va j) (vl j) (vc j)) ∧ WP w0 B b (.agg #[.int .i64 ks[j].kind, .int .i64 ks[j].pos, .string ⟨ks[j].name.toArray⟩, .int .i64 ks[j].num, .slice (va j) (vl j) (vc j)]) 0 (f ks[j])) :
  ∀ (w : World) (l : List (List UInt8)), B ≤ w.heap.size → Below w0.heap.size w0 w → PrAt B b l w → l.length + (([104, 97, 110, 100, 108, 101] :: t0) ++ [[119, 105, 116, 104]] ++ ([123] :: t1) ++ ks.flatMap (fun k => [124] :: f k) ++ [[125]]).length ≤ 900000 →
  Calls Tryz.prog 87 #[.pointer (some ⟨b, 0, none⟩), .agg #[.int .i64 20, .int .i64 p, .string ⟨x.toArray⟩, .int .i64 m, .slice (some ⟨g, o, none⟩) L c]] w fun e w' => PPost w B b (l ++ (([104, 97, 110, 100, 108, 101] :: t0) ++ [[119, 105, 116, 104]] ++ ([123] :: t1) ++ ks.flatMap (fun k => [124] :: f k) ++ [[125]])) e w' := by
 intro w l hB hnn hp hl
 obtain ⟨F, hF⟩ : ∃ F : Tr → List (List UInt8), F = fun k => [124] :: f k := ⟨_, rfl⟩
 have HFF := hid hF
 rw [← hF] at hl ⊢
 clear hF
 have hbH : w.heap.size ≠ b := by have := pr_lt hp; omega
 have H0 := hid h0
 have H1 := hid h1
 have F0 := hid E0
 have F1 := hid E1
 have hl2 := hl
 simp only [List.length_append, List.length_cons, List.length_nil] at hl2
 have HNN := hid hN
 have HLA := hid hn
 have hL1 : L ≤ n + 2 := by omega
 have hL2 : n + 2 ≤ L := by omega
 clear hN hn hL
 clear hl h0 h1 E0 E1
 obtain ⟨W0, hW0⟩ : ∃ W, W = w.alloc (.cells #[.int .i64 20, .int .i64 p, .string ⟨x.toArray⟩, .int .i64 m, .slice (some ⟨g, o, none⟩) L c] 24) := ⟨_, rfl⟩
 have HW0 : Hid (Pw w0 w W0 B b w.heap.size #[.int .i64 20, .int .i64 p, .string ⟨x.toArray⟩, .int .i64 m, .slice (some ⟨g, o, none⟩) L c] l) := by rw [hW0]; exact Pw.start _ hp hB hnn
 clear hp hnn
 go_enter Tryz.func87, Tryz.ntmps87
 go_upto_region 1 with fail
 rw [← hW0]
 clear hW0
 have a3_0 := HW0.out.cell 3 _ rfl
 have a4_0 := HW0.out.cell 4 _ rfl
 obtain ⟨f00, f01, f02, f03, f04⟩ := Nod.past F0.out hg HW0.out.new
 go_wp2_with fail
 refine (behind_any w0 B b [104, 97, 110, 100, 108, 101] t0 hB0 H0.out _ _ HW0.out.sz HW0.out.new HW0.out.pr (by simp only [List.length_cons]; omega)).mono ?_
 rintro e w1 ⟨rfl, P1, P2, P3⟩
 have HW1 := hid (HW0.out.said hbH hB0 P1.out P2.out P3.out)
 clear P1 P2 P3 a3_0 a4_0 f00 f01 f02 f03 f04
 go_wp2_with fail
 refine (say1 HW1.out hbH hB0 [119, 105, 116, 104] (by simp only [List.length_append, List.length_cons]; omega)).mono ?_
 rintro e w2 ⟨rfl, HW2⟩
 have a4_2 := HW2.out.cell 4 _ rfl
 obtain ⟨f10, f11, f12, f13, f14⟩ := Nod.past F1.out hg HW2.out.new
 go_wp2_with fail
 refine (behind_any w0 B b [123] t1 hB0 H1.out _ _ HW2.out.sz HW2.out.new HW2.out.pr (by simp only [List.length_append, List.length_cons, List.length_nil]; omega)).mono ?_
 rintro e w3 ⟨rfl, P1, P2, P3⟩
 have HW3 := hid (HW2.out.said hbH hB0 P1.out P2.out P3.out)
 clear P1 P2 P3 a4_2 f10 f11 f12 f13 f14
 have a4_3 := HW3.out.cell 4 _ rfl
 go_wp2_with fail
 obtain ⟨l3, hl3⟩ : ∃ l3, l3 = l ++ [104, 97, 110, 100, 108, 101] :: t0 ++ [[119, 105, 116, 104]] ++ [123] :: t1 := ⟨_, rfl⟩
 have HL3 := hid hl3
 have hll : l3.length + ((ks.flatMap F).length + 1) ≤ 900000 := by rw [hl3]; simp only [List.length_append, List.length_cons, List.length_nil]; omega
 rw [← hl3] at HW3
 clear hl3
 go_loopw [30] (fun v wr => ∃ q : Nat, v = .int .i64 q ∧ q ≤ n ∧ Hid (Pw w0 w wr B b w.heap.size #[.int .i64 20, .int .i64 p, .string ⟨x.toArray⟩, .int .i64 m, .slice (some ⟨g, o, none⟩) L c] (l3 ++ (ks.take q).flatMap F))) (fun v _ => n - (intOf v).toNat)
 case atStart => exact ⟨0, rfl, Nat.zero_le _, by simpa using HW3⟩
 case round =>
  obtain ⟨q, rfl, hq, HS⟩ := hrel
  by_cases hlt : q < n
  ·have hlt2 : q < ks.length := by rw [← HLA.out]; exact hlt
   obtain ⟨hnod, hwp⟩ := HNN.out q hlt2
   have HST := hid (flat_step F ks q hlt2)
   have hlen : l3.length + ((ks.take q).flatMap F).length + (F ks[q]).length ≤ 900000 := by
    have h1 := flat_len_le F ks (q + 1)
    rw [HST.out, List.length_append] at h1
    omega
   have hFq : F ks[q] = [124] :: f ks[q] := by rw [HFF.out]
   rw [hFq] at HST hlen
   have HWP := hid hwp
   clear hFq
   generalize ks[q] = t at hnod HWP HST hlen
   obtain ⟨f0, f1, f2, f3, f4⟩ := Nod.past hnod hg HS.out.new
   have hgn : ¬ g = wr.heap.size := by have := HS.out.new.size; omega
   clear hwp hnod
   have hqi2 : (q : Int) < ((L - 2 : Nat) : Int) := by omega
   generalize va q = va1 at f4 HWP
   generalize vl q = vl1 at f4 HWP
   generalize vc q = vc1 at f4 HWP
   generalize (t.kind : Int) = tk at f0 HWP
   generalize (t.pos : Int) = tp at f1 HWP
   generalize t.name = tn at f2 HWP
   generalize t.num = tm at f3 HWP
   go_upto_region 10 with fail
   obtain ⟨X, hX⟩ : ∃ X, X = wr.alloc (.cells #[.int .i64 tk, .int .i64 tp, .string ⟨tn.toArray⟩, .int .i64 tm, .slice va1 vl1 vc1] 24) := ⟨_, rfl⟩
   rw [← hX]
   have HX : Hid (Pw w0 w X B b w.heap.size #[.int .i64 20, .int .i64 p, .string ⟨x.toArray⟩, .int .i64 m, .slice (some ⟨g, o, none⟩) L c] (l3 ++ (ks.take q).flatMap F)) := by rw [hX]; exact HS.out.past ((Below.refl _ _).alloc (Nat.le_refl _) _)
   have c0 : X.cell? ⟨wr.heap.size, 0, none⟩ = some (.int .i64 tk) := by rw [hX]; simp [go_sem]
   have c1 : X.cell? ⟨wr.heap.size, 1, none⟩ = some (.int .i64 tp) := by rw [hX]; simp [go_sem]
   have c2 : X.cell? ⟨wr.heap.size, 2, none⟩ = some (.string ⟨tn.toArray⟩) := by rw [hX]; simp [go_sem]
   have c3 : X.cell? ⟨wr.heap.size, 3, none⟩ = some (.int .i64 tm) := by rw [hX]; simp [go_sem]
   have c4 : X.cell? ⟨wr.heap.size, 4, none⟩ = some (.slice va1 vl1 vc1) := by rw [hX]; simp [go_sem]
   clear hX f0 f1 f2 f3 f4
   go_wp2_with fail
   refine (behind_any w0 B b [124] (f t) hB0 HWP.out _ _ HX.out.sz HX.out.new HX.out.pr (by rw [List.length_append]; omega)).mono ?_
   rintro e w4 ⟨rfl, P1, P2, P3⟩
   have HS2 := hid (HX.out.said hbH hB0 P1.out P2.out P3.out)
   go_wp2_with fail
   go_roundw
   case rel => exact ⟨q + 1, by go_num, by omega, by rw [HST.out, ← List.append_assoc]; exact HS2⟩
   case measure => simp [intOf] <;> omega
  ·have hqe : q = ks.length := by have := HLA.out; omega
   have HE : Hid (ks.take q = ks) := by rw [hqe]; exact List.take_length
   have hqq2 : ¬ (q : Int) < ((L - 2 : Nat) : Int) := by omega
   rw [HE.out] at HS
   clear hqe
   go_wp2_with fail
   refine (say1 HS.out hbH hB0 [125] (by rw [List.length_append]; omega)).mono ?_
   rintro e w4 ⟨rfl, HW4⟩
   go_wp2_with fail
   go_end0
   exact HW4.out.fin (by rw [HL3.out]; simp)

open Go.RowKit


theorem pk_elet (w0 : World) (B b : Nat) (p m : Int) (x : List UInt8) (g o c : Nat) (k1 p1 : Int) (n1 : ByteArray) (m1 : Int) (v1 : Value) (t0 t1 : List (List UInt8)) (hB0 : w0.heap.size ≤ B) (hg : g < w0.heap.size) (_hc : 2 ≤ c) (E1 : Nod w0 g (o + 5) k1 p1 n1 m1 v1)
  (h0 : ∀ (w : World) (l : List (List UInt8)), B ≤ w.heap.size → Below w0.heap.size w0 w → PrAt B b l w → l.length + t0.length ≤ 900000 → Calls Tryz.prog 84 #[.pointer (some ⟨b, 0, none⟩), .string ⟨#[108, 101, 116]⟩, .agg #[.int .i64 9, .int .i64 p, .string ⟨x.toArray⟩, .int .i64 m, .slice (some ⟨g, o, none⟩) 2 c]] w fun e w' => PPost w B b (l ++ t0) e w')
  (h1 : WP w0 B b (Value.agg #[.int .i64 k1, .int .i64 p1, .string n1, .int .i64 m1, v1]) 0 t1) :
  BP w0 B b (.agg #[.int .i64 9, .int .i64 p, .string ⟨x.toArray⟩, .int .i64 m, .slice (some ⟨g, o, none⟩) 2 c]) (t0 ++ ([105, 110] :: t1)) := by
 intro w l hB hn hp hl
 have hbH : w.heap.size ≠ b := by have := pr_lt hp; omega
 have H0 := hid h0
 have H1 := hid h1
 have F1 := hid E1
 have hl2 := hl
 simp only [List.length_append, List.length_cons] at hl2
 clear hl
 obtain ⟨W0, hW0⟩ : ∃ W, W = w.alloc (.cells #[.int .i64 9, .int .i64 p, .string ⟨x.toArray⟩, .int .i64 m, .slice (some ⟨g, o, none⟩) 2 c] 24) := ⟨_, rfl⟩
 have HW0 : Hid (Pw w0 w W0 B b w.heap.size #[.int .i64 9, .int .i64 p, .string ⟨x.toArray⟩, .int .i64 m, .slice (some ⟨g, o, none⟩) 2 c] l) := by rw [hW0]; exact Pw.start _ hp hB hn
 clear h0 h1 E1 hp hn
 go_enter Tryz.func48, Tryz.ntmps48
 go_upto_region 1 with fail
 rw [← hW0]
 clear hW0
 have a0 := HW0.out.cell 0 _ rfl
 have a1 := HW0.out.cell 1 _ rfl
 have a2 := HW0.out.cell 2 _ rfl
 have a3 := HW0.out.cell 3 _ rfl
 have a4 := HW0.out.cell 4 _ rfl
 go_wp2_with fail
 refine (H0.out _ _ HW0.out.sz HW0.out.new HW0.out.pr (by omega)).mono ?_
 rintro e w1 ⟨rfl, P1, P2, P3⟩
 have HW1 := hid (HW0.out.said hbH hB0 P1.out P2.out P3.out)
 clear P1 P2 P3 a0 a1 a2 a3 a4
 have a4 := HW1.out.cell 4 _ rfl
 obtain ⟨f10, f11, f12, f13, f14⟩ := Nod.past F1.out hg HW1.out.new
 go_wp2_with fail
 refine (behind_any w0 B b [105, 110] t1 hB0 H1.out _ _ HW1.out.sz HW1.out.new HW1.out.pr (by simp only [List.length_append, List.length_cons]; omega)).mono ?_
 rintro e w2 ⟨rfl, P1, P2, P3⟩
 have HW2 := hid (HW1.out.said hbH hB0 P1.out P2.out P3.out)
 go_wp2_with fail
 go_end0
 exact HW2.out.fin (by simp)

theorem pk_dlet (w0 : World) (B b : Nat) (p m : Int) (x : List UInt8) (va : Option Addr) (vl vc : Nat) (t0 : List (List UInt8)) (hB0 : w0.heap.size ≤ B)
  (h0 : ∀ (w : World) (l : List (List UInt8)), B ≤ w.heap.size → Below w0.heap.size w0 w → PrAt B b l w → l.length + t0.length ≤ 900000 → Calls Tryz.prog 84 #[.pointer (some ⟨b, 0, none⟩), .string ⟨#[100, 101, 102]⟩, .agg #[.int .i64 2, .int .i64 p, .string ⟨x.toArray⟩, .int .i64 m, .slice va vl vc]] w fun e w' => PPost w B b (l ++ t0) e w') :
  BP w0 B b (.agg #[.int .i64 2, .int .i64 p, .string ⟨x.toArray⟩, .int .i64 m, .slice va vl vc]) t0 := by
 intro w l hB hn hp hl
 have hbH : w.heap.size ≠ b := by have := pr_lt hp; omega
 have H0 := hid h0
 obtain ⟨W0, hW0⟩ : ∃ W, W = w.alloc (.cells #[.int .i64 2, .int .i64 p, .string ⟨x.toArray⟩, .int .i64 m, .slice va vl vc] 24) := ⟨_, rfl⟩
 have HW0 : Hid (Pw w0 w W0 B b w.heap.size #[.int .i64 2, .int .i64 p, .string ⟨x.toArray⟩, .int .i64 m, .slice va vl vc] l) := by rw [hW0]; exact Pw.start _ hp hB hn
 clear h0 hp hn
 go_enter Tryz.func48, Tryz.ntmps48
 go_upto_region 1 with fail
 rw [← hW0]
 clear hW0
 have a0 := HW0.out.cell 0 _ rfl
 have a1 := HW0.out.cell 1 _ rfl
 have a2 := HW0.out.cell 2 _ rfl
 have a3 := HW0.out.cell 3 _ rfl
 have a4 := HW0.out.cell 4 _ rfl
 go_wp2_with fail
 refine (H0.out _ _ HW0.out.sz HW0.out.new HW0.out.pr hl).mono ?_
 rintro e w1 ⟨rfl, P1, P2, P3⟩
 have HW1 := hid (HW0.out.said hbH hB0 P1.out P2.out P3.out)
 go_wp2_with fail
 go_end0
 exact HW1.out.fin rfl


theorem ps_ebool (w0 : World) (B b : Nat) (p m : Int) (x : List UInt8) (va : Option Addr) (vl vc : Nat) (hB0 : w0.heap.size ≤ B) :
  ∀ (w : World) (l : List (List UInt8)), B ≤ w.heap.size → Below w0.heap.size w0 w → PrAt B b l w → l.length + ([if m = 1 then [116, 114, 117, 101] else [102, 97, 108, 115, 101]] : List (List UInt8)).length ≤ 900000 →
  Calls Tryz.prog 90 #[.pointer (some ⟨b, 0, none⟩), .agg #[.int .i64 4, .int .i64 p, .string ⟨x.toArray⟩, .int .i64 m, .slice va vl vc]] w fun e w' => PPost w B b (l ++ [if m = 1 then [116, 114, 117, 101] else [102, 97, 108, 115, 101]]) e w' := by
 intro w l hB hn hp hl
 have hbH : w.heap.size ≠ b := by have := pr_lt hp; omega
 have hl2 : l.length + 1 ≤ 900000 := by simpa using hl
 have HT := hid (truth_any B b m)
 generalize (if m = 1 then [116, 114, 117, 101] else [102, 97, 108, 115, 101] : List UInt8) = tt at HT ⊢
 obtain ⟨W0, hW0⟩ : ∃ W, W = w.alloc (.cells #[.int .i64 4, .int .i64 p, .string ⟨x.toArray⟩, .int .i64 m, .slice va vl vc] 24) := ⟨_, rfl⟩
 have HW0 : Hid (Pw w0 w W0 B b w.heap.size #[.int .i64 4, .int .i64 p, .string ⟨x.toArray⟩, .int .i64 m, .slice va vl vc] l) := by rw [hW0]; exact Pw.start _ hp hB hn
 clear hp hn hl
 go_enter Tryz.func90, Tryz.ntmps90
 go_upto_region 1 with fail
 rw [← hW0]
 clear hW0
 have a0 := HW0.out.cell 0 _ rfl
 have a2 := HW0.out.cell 2 _ rfl
 have a3 := HW0.out.cell 3 _ rfl
 go_wp2_with fail
 refine (HT.out _ _ HW0.out.sz HW0.out.pr hl2).mono ?_
 rintro e w1 ⟨rfl, P1, P2, P3⟩
 have HW1 := hid (HW0.out.said hbH hB0 P1.out P2.out P3.out)
 go_wp2_with fail
 go_end0
 exact HW1.out.fin rfl

theorem ps_eint (w0 : World) (B b : Nat) (p m : Int) (x : List UInt8) (va : Option Addr) (vl vc : Nat) (ts : List (List UInt8)) (hB0 : w0.heap.size ≤ B)
  (h0 : ∀ (w : World) (l : List (List UInt8)), B ≤ w.heap.size → Below w0.heap.size w0 w → PrAt B b l w → l.length + ts.length ≤ 900000 → Calls Tryz.prog 121 #[.pointer (some ⟨b, 0, none⟩), .int .i64 m] w fun e w' => PPost w B b (l ++ ts) e w') :
  ∀ (w : World) (l : List (List UInt8)), B ≤ w.heap.size → Below w0.heap.size w0 w → PrAt B b l w → l.length + ts.length ≤ 900000 →
  Calls Tryz.prog 90 #[.pointer (some ⟨b, 0, none⟩), .agg #[.int .i64 3, .int .i64 p, .string ⟨x.toArray⟩, .int .i64 m, .slice va vl vc]] w fun e w' => PPost w B b (l ++ ts) e w' := by
 intro w l hB hn hp hl
 have hbH : w.heap.size ≠ b := by have := pr_lt hp; omega
 have HT := hid h0
 obtain ⟨W0, hW0⟩ : ∃ W, W = w.alloc (.cells #[.int .i64 3, .int .i64 p, .string ⟨x.toArray⟩, .int .i64 m, .slice va vl vc] 24) := ⟨_, rfl⟩
 have HW0 : Hid (Pw w0 w W0 B b w.heap.size #[.int .i64 3, .int .i64 p, .string ⟨x.toArray⟩, .int .i64 m, .slice va vl vc] l) := by rw [hW0]; exact Pw.start _ hp hB hn
 clear h0 hp hn
 go_enter Tryz.func90, Tryz.ntmps90
 go_upto_region 1 with fail
 rw [← hW0]
 clear hW0
 have a0 := HW0.out.cell 0 _ rfl
 have a2 := HW0.out.cell 2 _ rfl
 have a3 := HW0.out.cell 3 _ rfl
 go_wp2_with fail
 refine (HT.out _ _ HW0.out.sz HW0.out.new HW0.out.pr hl).mono ?_
 rintro e w1 ⟨rfl, P1, P2, P3⟩
 have HW1 := hid (HW0.out.said hbH hB0 P1.out P2.out P3.out)
 go_wp2_with fail
 go_end0
 exact HW1.out.fin rfl

open Go.RowKit

theorem pk_cop (w0 : World) (B b : Nat) (p m : Int) (x : List UInt8) (g o c : Nat) (k0 p0 : Int) (n0 : ByteArray) (m0 : Int) (v0 : Value) (k1 p1 : Int) (n1 : ByteArray) (m1 : Int) (v1 : Value) (k2 p2 : Int) (n2 : ByteArray) (m2 : Int) (v2 : Value) (y0 : List UInt8) (hy0 : n0 = ⟨y0.toArray⟩) (y1 : List UInt8) (hy1 : n1 = ⟨y1.toArray⟩) (t2 : List (List UInt8)) (hB0 : w0.heap.size ≤ B) (hg : g < w0.heap.size) (_hc : 3 ≤ c) (E0 : Nod w0 g (o) k0 p0 n0 m0 v0) (E1 : Nod w0 g (o + 5) k1 p1 n1 m1 v1) (E2 : Nod w0 g (o + 10) k2 p2 n2 m2 v2) (h2 : WP w0 B b (Value.agg #[.int .i64 k2, .int .i64 p2, .string n2, .int .i64 m2, v2]) 0 t2) :
  ∀ (w : World) (l : List (List UInt8)), B ≤ w.heap.size → Below w0.heap.size w0 w → PrAt B b l w → l.length + ([x, y0, y1] ++ ([61, 62] :: t2)).length ≤ 900000 →
  Calls Tryz.prog 48 #[.pointer (some ⟨b, 0, none⟩), .agg #[.int .i64 22, .int .i64 p, .string ⟨x.toArray⟩, .int .i64 m, .slice (some ⟨g, o, none⟩) 3 c]] w fun e w' => PPost w B b (l ++ ([x, y0, y1] ++ ([61, 62] :: t2))) e w' := by
 intro w l hB hn hp hl
 subst hy0
 subst hy1
 have hbH : w.heap.size ≠ b := by have := pr_lt hp; omega
 have H2 := hid h2
 have F0 := hid E0
 have F1 := hid E1
 have F2 := hid E2
 have hl2 := hl
 simp only [List.length_append, List.length_cons, List.length_nil] at hl2
 clear hl
 obtain ⟨W0, hW0⟩ : ∃ W, W = w.alloc (.cells #[.int .i64 22, .int .i64 p, .string ⟨x.toArray⟩, .int .i64 m, .slice (some ⟨g, o, none⟩) 3 c] 24) := ⟨_, rfl⟩
 have HW0 : Hid (Pw w0 w W0 B b w.heap.size #[.int .i64 22, .int .i64 p, .string ⟨x.toArray⟩, .int .i64 m, .slice (some ⟨g, o, none⟩) 3 c] l) := by rw [hW0]; exact Pw.start _ hp hB hn
 clear h2 E0 E1 E2 hp hn
 go_enter Tryz.func48, Tryz.ntmps48
 go_upto_region 1 with fail
 rw [← hW0]
 clear hW0
 have a0_0 := HW0.out.cell 0 _ rfl
 have a1_0 := HW0.out.cell 1 _ rfl
 have a2_0 := HW0.out.cell 2 _ rfl
 have a3_0 := HW0.out.cell 3 _ rfl
 have a4_0 := HW0.out.cell 4 _ rfl
 obtain ⟨f00_0, f01_0, f02_0, f03_0, f04_0⟩ := Nod.past F0.out hg HW0.out.new
 obtain ⟨f10_0, f11_0, f12_0, f13_0, f14_0⟩ := Nod.past F1.out hg HW0.out.new
 obtain ⟨f20_0, f21_0, f22_0, f23_0, f24_0⟩ := Nod.past F2.out hg HW0.out.new
 go_wp2_with fail
 go_region_held3 (fun w' => w'.cell? ⟨w.heap.size, 2, none⟩ = some (.string ⟨x.toArray⟩) ∧ w'.cell? ⟨w.heap.size, 4, none⟩ = some (.slice (some ⟨g, o, none⟩) 3 c) ∧ w'.cell? ⟨g, o + 2, none⟩ = some (.string ⟨y0.toArray⟩) ∧ w'.cell? ⟨g, o + 5 + 2, none⟩ = some (.string ⟨y1.toArray⟩)) (go_keep)
  ((go_at_call 49; refine (say_at HW0.out hbH hB0 [x, y0, y1] _ (by repeat (with_reducible (first | exact Below.refl _ _ | apply Below.drew | refine Below.alloc ?_ (Nat.le_refl _) _))) (by exact heap_alloc_new _ _) (by simp; omega)).mono ?_; rintro e w1 ⟨rfl, HW1⟩; have z2 := HW1.out.cell 2 _ rfl; have z4 := HW1.out.cell 4 _ rfl; obtain ⟨_, _, z0, _, _⟩ := Nod.past F0.out hg HW1.out.new; obtain ⟨_, _, z1, _, _⟩ := Nod.past F1.out hg HW1.out.new))
 clear a0_0 a1_0 a2_0 a3_0 a4_0 f00_0 f01_0 f02_0 f03_0 f04_0 f10_0 f11_0 f12_0 f13_0 f14_0 f20_0 f21_0 f22_0 f23_0 f24_0
 have a0_1 := HW1.out.cell 0 _ rfl
 have a1_1 := HW1.out.cell 1 _ rfl
 have a2_1 := HW1.out.cell 2 _ rfl
 have a3_1 := HW1.out.cell 3 _ rfl
 have a4_1 := HW1.out.cell 4 _ rfl
 obtain ⟨f00_1, f01_1, f02_1, f03_1, f04_1⟩ := Nod.past F0.out hg HW1.out.new
 obtain ⟨f10_1, f11_1, f12_1, f13_1, f14_1⟩ := Nod.past F1.out hg HW1.out.new
 obtain ⟨f20_1, f21_1, f22_1, f23_1, f24_1⟩ := Nod.past F2.out hg HW1.out.new
 go_wp2_with fail
 refine (behind_any w0 B b [61, 62] t2 hB0 H2.out _ _ HW1.out.sz HW1.out.new HW1.out.pr (by first | omega | (simp only [List.length_append, List.length_cons, List.length_nil]; omega))).mono ?_
 rintro e w2 ⟨rfl, P1, P2, P3⟩
 have HW2 := hid (HW1.out.said hbH hB0 P1.out P2.out P3.out)
 clear P1 P2 P3
 clear a0_1 a1_1 a2_1 a3_1 a4_1 f00_1 f01_1 f02_1 f03_1 f04_1 f10_1 f11_1 f12_1 f13_1 f14_1 f20_1 f21_1 f22_1 f23_1 f24_1
 go_wp2_with fail
 go_end0
 exact HW2.out.fin (by simp)
end Go.Proofs.YtoajnlhegallpaaGreatDoor
