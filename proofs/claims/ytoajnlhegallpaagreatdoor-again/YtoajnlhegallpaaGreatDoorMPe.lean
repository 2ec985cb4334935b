/-
  The program's printer: what has a sign between its two kids.
-/
import Derived.Test.YtoajnlhegallpaaGreatDoorMPc
set_option linter.unusedVariables false
set_option linter.unusedSimpArgs false
set_option maxRecDepth 100000
set_option maxHeartbeats 8000000
namespace Go.Proofs.YtoajnlhegallpaaGreatDoor
open Go.RowKit

theorem pk_seq (w0 : World) (B b : Nat) (p m : Int) (x : List UInt8) (g o c : Nat) (k0 p0 : Int) (n0 : ByteArray) (m0 : Int) (v0 : Value) (k1 p1 : Int) (n1 : ByteArray) (m1 : Int) (v1 : Value) (t0 : List (List UInt8)) (t1 : List (List UInt8)) (hB0 : w0.heap.size ≤ B) (hg : g < w0.heap.size) (_hc : 2 ≤ c) (E0 : Nod w0 g (o) k0 p0 n0 m0 v0) (E1 : Nod w0 g (o + 5) k1 p1 n1 m1 v1) (h0 : WP w0 B b (Value.agg #[.int .i64 k0, .int .i64 p0, .string n0, .int .i64 m0, v0]) 1 t0) (h1 : WP w0 B b (Value.agg #[.int .i64 k1, .int .i64 p1, .string n1, .int .i64 m1, v1]) 0 t1) :
  ∀ (w : World) (l : List (List UInt8)), B ≤ w.heap.size → Below w0.heap.size w0 w → PrAt B b l w → l.length + (t0 ++ [[59]] ++ t1).length ≤ 900000 →
  Calls Tryz.prog 88 #[.pointer (some ⟨b, 0, none⟩), .agg #[.int .i64 10, .int .i64 p, .string ⟨x.toArray⟩, .int .i64 m, .slice (some ⟨g, o, none⟩) 2 c]] w fun e w' => PPost w B b (l ++ (t0 ++ [[59]] ++ t1)) e w' := by
 intro w l hB hn hp hl
 have hbH : w.heap.size ≠ b := by have := pr_lt hp; omega
 have H0 := hid h0
 have H1 := hid h1
 have F0 := hid E0
 have F1 := hid E1
 have hl2 := hl
 simp only [List.length_append, List.length_cons, List.length_nil] at hl2
 clear hl
 obtain ⟨W0, hW0⟩ : ∃ W, W = w.alloc (.cells #[.int .i64 10, .int .i64 p, .string ⟨x.toArray⟩, .int .i64 m, .slice (some ⟨g, o, none⟩) 2 c] 24) := ⟨_, rfl⟩
 have HW0 : Hid (Pw w0 w W0 B b w.heap.size #[.int .i64 10, .int .i64 p, .string ⟨x.toArray⟩, .int .i64 m, .slice (some ⟨g, o, none⟩) 2 c] l) := by rw [hW0]; exact Pw.start _ hp hB hn
 clear h0 h1 E0 E1 hp hn
 go_enter Tryz.func88, Tryz.ntmps88
 go_upto_region 1 with fail
 rw [← hW0]
 clear hW0
 have a0_0 := HW0.out.cell 0 _ rfl
 have a1_0 := HW0.out.cell 1 _ rfl
 have a2_0 := HW0.out.cell 2 _ rfl
 have a3_0 := HW0.out.cell 3 _ rfl
 have a4_0 := HW0.out.cell 4 _ rfl
 obtain ⟨f00_0, f01_0, f02_0, f03_0, f04_0⟩ := Nod.past F0.out hg HW0.out.new
 obtain ⟨f10_0, f11_0, f12_0, f13_0, f14_0⟩ := Nod.past F1.out hg HW0.out.new
 go_wp2_with fail
 refine (sides_seq p m x _ _).mono ?_
 rintro e w1 ⟨rfl, HQ1⟩
 have HW1 := hid (HW0.out.past HQ1.out)
 clear a0_0 a1_0 a2_0 a3_0 a4_0 f00_0 f01_0 f02_0 f03_0 f04_0 f10_0 f11_0 f12_0 f13_0 f14_0
 have a0_1 := HW1.out.cell 0 _ rfl
 have a1_1 := HW1.out.cell 1 _ rfl
 have a2_1 := HW1.out.cell 2 _ rfl
 have a3_1 := HW1.out.cell 3 _ rfl
 have a4_1 := HW1.out.cell 4 _ rfl
 obtain ⟨f00_1, f01_1, f02_1, f03_1, f04_1⟩ := Nod.past F0.out hg HW1.out.new
 obtain ⟨f10_1, f11_1, f12_1, f13_1, f14_1⟩ := Nod.past F1.out hg HW1.out.new
 go_wp2_with fail
 refine (H0.out _ _ HW1.out.sz HW1.out.new HW1.out.pr (by first | omega | (simp only [List.length_append, List.length_cons, List.length_nil]; omega))).mono ?_
 rintro e w2 ⟨rfl, P1, P2, P3⟩
 have HW2 := hid (HW1.out.said hbH hB0 P1.out P2.out P3.out)
 clear P1 P2 P3
 clear a0_1 a1_1 a2_1 a3_1 a4_1 f00_1 f01_1 f02_1 f03_1 f04_1 f10_1 f11_1 f12_1 f13_1 f14_1
 have a0_2 := HW2.out.cell 0 _ rfl
 have a1_2 := HW2.out.cell 1 _ rfl
 have a2_2 := HW2.out.cell 2 _ rfl
 have a3_2 := HW2.out.cell 3 _ rfl
 have a4_2 := HW2.out.cell 4 _ rfl
 obtain ⟨f00_2, f01_2, f02_2, f03_2, f04_2⟩ := Nod.past F0.out hg HW2.out.new
 obtain ⟨f10_2, f11_2, f12_2, f13_2, f14_2⟩ := Nod.past F1.out hg HW2.out.new
 go_wp2_with fail
 refine (say1 HW2.out hbH hB0 ([59]) (by first | omega | (simp only [List.length_append]; omega))).mono ?_
 rintro e w3 ⟨rfl, HW3⟩
 clear a0_2 a1_2 a2_2 a3_2 a4_2 f00_2 f01_2 f02_2 f03_2 f04_2 f10_2 f11_2 f12_2 f13_2 f14_2
 have a0_3 := HW3.out.cell 0 _ rfl
 have a1_3 := HW3.out.cell 1 _ rfl
 have a2_3 := HW3.out.cell 2 _ rfl
 have a3_3 := HW3.out.cell 3 _ rfl
 have a4_3 := HW3.out.cell 4 _ rfl
 obtain ⟨f00_3, f01_3, f02_3, f03_3, f04_3⟩ := Nod.past F0.out hg HW3.out.new
 obtain ⟨f10_3, f11_3, f12_3, f13_3, f14_3⟩ := Nod.past F1.out hg HW3.out.new
 go_wp2_with fail
 refine (H1.out _ _ HW3.out.sz HW3.out.new HW3.out.pr (by first | omega | (simp only [List.length_append, List.length_cons, List.length_nil]; omega))).mono ?_
 rintro e w4 ⟨rfl, P1, P2, P3⟩
 have HW4 := hid (HW3.out.said hbH hB0 P1.out P2.out P3.out)
 clear P1 P2 P3
 clear a0_3 a1_3 a2_3 a3_3 a4_3 f00_3 f01_3 f02_3 f03_3 f04_3 f10_3 f11_3 f12_3 f13_3 f14_3
 go_wp2_with fail
 go_end0
 exact HW4.out.fin (by simp)

theorem pk_cons (w0 : World) (B b : Nat) (p m : Int) (x : List UInt8) (g o c : Nat) (k0 p0 : Int) (n0 : ByteArray) (m0 : Int) (v0 : Value) (k1 p1 : Int) (n1 : ByteArray) (m1 : Int) (v1 : Value) (t0 : List (List UInt8)) (t1 : List (List UInt8)) (hB0 : w0.heap.size ≤ B) (hg : g < w0.heap.size) (_hc : 2 ≤ c) (E0 : Nod w0 g (o) k0 p0 n0 m0 v0) (E1 : Nod w0 g (o + 5) k1 p1 n1 m1 v1) (h0 : WP w0 B b (Value.agg #[.int .i64 k0, .int .i64 p0, .string n0, .int .i64 m0, v0]) 3 t0) (h1 : WP w0 B b (Value.agg #[.int .i64 k1, .int .i64 p1, .string n1, .int .i64 m1, v1]) 2 t1) :
  ∀ (w : World) (l : List (List UInt8)), B ≤ w.heap.size → Below w0.heap.size w0 w → PrAt B b l w → l.length + (t0 ++ [[58, 58]] ++ t1).length ≤ 900000 →
  Calls Tryz.prog 88 #[.pointer (some ⟨b, 0, none⟩), .agg #[.int .i64 16, .int .i64 p, .string ⟨x.toArray⟩, .int .i64 m, .slice (some ⟨g, o, none⟩) 2 c]] w fun e w' => PPost w B b (l ++ (t0 ++ [[58, 58]] ++ t1)) e w' := by
 intro w l hB hn hp hl
 have hbH : w.heap.size ≠ b := by have := pr_lt hp; omega
 have H0 := hid h0
 have H1 := hid h1
 have F0 := hid E0
 have F1 := hid E1
 have hl2 := hl
 simp only [List.length_append, List.length_cons, List.length_nil] at hl2
 clear hl
 obtain ⟨W0, hW0⟩ : ∃ W, W = w.alloc (.cells #[.int .i64 16, .int .i64 p, .string ⟨x.toArray⟩, .int .i64 m, .slice (some ⟨g, o, none⟩) 2 c] 24) := ⟨_, rfl⟩
 have HW0 : Hid (Pw w0 w W0 B b w.heap.size #[.int .i64 16, .int .i64 p, .string ⟨x.toArray⟩, .int .i64 m, .slice (some ⟨g, o, none⟩) 2 c] l) := by rw [hW0]; exact Pw.start _ hp hB hn
 clear h0 h1 E0 E1 hp hn
 go_enter Tryz.func88, Tryz.ntmps88
 go_upto_region 1 with fail
 rw [← hW0]
 clear hW0
 have a0_0 := HW0.out.cell 0 _ rfl
 have a1_0 := HW0.out.cell 1 _ rfl
 have a2_0 := HW0.out.cell 2 _ rfl
 have a3_0 := HW0.out.cell 3 _ rfl
 have a4_0 := HW0.out.cell 4 _ rfl
 obtain ⟨f00_0, f01_0, f02_0, f03_0, f04_0⟩ := Nod.past F0.out hg HW0.out.new
 obtain ⟨f10_0, f11_0, f12_0, f13_0, f14_0⟩ := Nod.past F1.out hg HW0.out.new
 go_wp2_with fail
 refine (sides_cons p m x _ _).mono ?_
 rintro e w1 ⟨rfl, HQ1⟩
 have HW1 := hid (HW0.out.past HQ1.out)
 clear a0_0 a1_0 a2_0 a3_0 a4_0 f00_0 f01_0 f02_0 f03_0 f04_0 f10_0 f11_0 f12_0 f13_0 f14_0
 have a0_1 := HW1.out.cell 0 _ rfl
 have a1_1 := HW1.out.cell 1 _ rfl
 have a2_1 := HW1.out.cell 2 _ rfl
 have a3_1 := HW1.out.cell 3 _ rfl
 have a4_1 := HW1.out.cell 4 _ rfl
 obtain ⟨f00_1, f01_1, f02_1, f03_1, f04_1⟩ := Nod.past F0.out hg HW1.out.new
 obtain ⟨f10_1, f11_1, f12_1, f13_1, f14_1⟩ := Nod.past F1.out hg HW1.out.new
 go_wp2_with fail
 refine (H0.out _ _ HW1.out.sz HW1.out.new HW1.out.pr (by first | omega | (simp only [List.length_append, List.length_cons, List.length_nil]; omega))).mono ?_
 rintro e w2 ⟨rfl, P1, P2, P3⟩
 have HW2 := hid (HW1.out.said hbH hB0 P1.out P2.out P3.out)
 clear P1 P2 P3
 clear a0_1 a1_1 a2_1 a3_1 a4_1 f00_1 f01_1 f02_1 f03_1 f04_1 f10_1 f11_1 f12_1 f13_1 f14_1
 have a0_2 := HW2.out.cell 0 _ rfl
 have a1_2 := HW2.out.cell 1 _ rfl
 have a2_2 := HW2.out.cell 2 _ rfl
 have a3_2 := HW2.out.cell 3 _ rfl
 have a4_2 := HW2.out.cell 4 _ rfl
 obtain ⟨f00_2, f01_2, f02_2, f03_2, f04_2⟩ := Nod.past F0.out hg HW2.out.new
 obtain ⟨f10_2, f11_2, f12_2, f13_2, f14_2⟩ := Nod.past F1.out hg HW2.out.new
 go_wp2_with fail
 refine (say1 HW2.out hbH hB0 ([58, 58]) (by first | omega | (simp only [List.length_append]; omega))).mono ?_
 rintro e w3 ⟨rfl, HW3⟩
 clear a0_2 a1_2 a2_2 a3_2 a4_2 f00_2 f01_2 f02_2 f03_2 f04_2 f10_2 f11_2 f12_2 f13_2 f14_2
 have a0_3 := HW3.out.cell 0 _ rfl
 have a1_3 := HW3.out.cell 1 _ rfl
 have a2_3 := HW3.out.cell 2 _ rfl
 have a3_3 := HW3.out.cell 3 _ rfl
 have a4_3 := HW3.out.cell 4 _ rfl
 obtain ⟨f00_3, f01_3, f02_3, f03_3, f04_3⟩ := Nod.past F0.out hg HW3.out.new
 obtain ⟨f10_3, f11_3, f12_3, f13_3, f14_3⟩ := Nod.past F1.out hg HW3.out.new
 go_wp2_with fail
 refine (H1.out _ _ HW3.out.sz HW3.out.new HW3.out.pr (by first | omega | (simp only [List.length_append, List.length_cons, List.length_nil]; omega))).mono ?_
 rintro e w4 ⟨rfl, P1, P2, P3⟩
 have HW4 := hid (HW3.out.said hbH hB0 P1.out P2.out P3.out)
 clear P1 P2 P3
 clear a0_3 a1_3 a2_3 a3_3 a4_3 f00_3 f01_3 f02_3 f03_3 f04_3 f10_3 f11_3 f12_3 f13_3 f14_3
 go_wp2_with fail
 go_end0
 exact HW4.out.fin (by simp)

theorem pk_ypair (w0 : World) (B b : Nat) (p m : Int) (x : List UInt8) (g o c : Nat) (k0 p0 : Int) (n0 : ByteArray) (m0 : Int) (v0 : Value) (k1 p1 : Int) (n1 : ByteArray) (m1 : Int) (v1 : Value) (t0 : List (List UInt8)) (t1 : List (List UInt8)) (hB0 : w0.heap.size ≤ B) (hg : g < w0.heap.size) (_hc : 2 ≤ c) (E0 : Nod w0 g (o) k0 p0 n0 m0 v0) (E1 : Nod w0 g (o + 5) k1 p1 n1 m1 v1) (h0 : WP w0 B b (Value.agg #[.int .i64 k0, .int .i64 p0, .string n0, .int .i64 m0, v0]) 2 t0) (h1 : WP w0 B b (Value.agg #[.int .i64 k1, .int .i64 p1, .string n1, .int .i64 m1, v1]) 1 t1) :
  ∀ (w : World) (l : List (List UInt8)), B ≤ w.heap.size → Below w0.heap.size w0 w → PrAt B b l w → l.length + (t0 ++ [[42]] ++ t1).length ≤ 900000 →
  Calls Tryz.prog 88 #[.pointer (some ⟨b, 0, none⟩), .agg #[.int .i64 28, .int .i64 p, .string ⟨x.toArray⟩, .int .i64 m, .slice (some ⟨g, o, none⟩) 2 c]] w fun e w' => PPost w B b (l ++ (t0 ++ [[42]] ++ t1)) e w' := by
 intro w l hB hn hp hl
 have hbH : w.heap.size ≠ b := by have := pr_lt hp; omega
 have H0 := hid h0
 have H1 := hid h1
 have F0 := hid E0
 have F1 := hid E1
 have hl2 := hl
 simp only [List.length_append, List.length_cons, List.length_nil] at hl2
 clear hl
 obtain ⟨W0, hW0⟩ : ∃ W, W = w.alloc (.cells #[.int .i64 28, .int .i64 p, .string ⟨x.toArray⟩, .int .i64 m, .slice (some ⟨g, o, none⟩) 2 c] 24) := ⟨_, rfl⟩
 have HW0 : Hid (Pw w0 w W0 B b w.heap.size #[.int .i64 28, .int .i64 p, .string ⟨x.toArray⟩, .int .i64 m, .slice (some ⟨g, o, none⟩) 2 c] l) := by rw [hW0]; exact Pw.start _ hp hB hn
 clear h0 h1 E0 E1 hp hn
 go_enter Tryz.func88, Tryz.ntmps88
 go_upto_region 1 with fail
 rw [← hW0]
 clear hW0
 have a0_0 := HW0.out.cell 0 _ rfl
 have a1_0 := HW0.out.cell 1 _ rfl
 have a2_0 := HW0.out.cell 2 _ rfl
 have a3_0 := HW0.out.cell 3 _ rfl
 have a4_0 := HW0.out.cell 4 _ rfl
 obtain ⟨f00_0, f01_0, f02_0, f03_0, f04_0⟩ := Nod.past F0.out hg HW0.out.new
 obtain ⟨f10_0, f11_0, f12_0, f13_0, f14_0⟩ := Nod.past F1.out hg HW0.out.new
 go_wp2_with fail
 refine (sides_ypair p m x _ _).mono ?_
 rintro e w1 ⟨rfl, HQ1⟩
 have HW1 := hid (HW0.out.past HQ1.out)
 clear a0_0 a1_0 a2_0 a3_0 a4_0 f00_0 f01_0 f02_0 f03_0 f04_0 f10_0 f11_0 f12_0 f13_0 f14_0
 have a0_1 := HW1.out.cell 0 _ rfl
 have a1_1 := HW1.out.cell 1 _ rfl
 have a2_1 := HW1.out.cell 2 _ rfl
 have a3_1 := HW1.out.cell 3 _ rfl
 have a4_1 := HW1.out.cell 4 _ rfl
 obtain ⟨f00_1, f01_1, f02_1, f03_1, f04_1⟩ := Nod.past F0.out hg HW1.out.new
 obtain ⟨f10_1, f11_1, f12_1, f13_1, f14_1⟩ := Nod.past F1.out hg HW1.out.new
 go_wp2_with fail
 refine (H0.out _ _ HW1.out.sz HW1.out.new HW1.out.pr (by first | omega | (simp only [List.length_append, List.length_cons, List.length_nil]; omega))).mono ?_
 rintro e w2 ⟨rfl, P1, P2, P3⟩
 have HW2 := hid (HW1.out.said hbH hB0 P1.out P2.out P3.out)
 clear P1 P2 P3
 clear a0_1 a1_1 a2_1 a3_1 a4_1 f00_1 f01_1 f02_1 f03_1 f04_1 f10_1 f11_1 f12_1 f13_1 f14_1
 have a0_2 := HW2.out.cell 0 _ rfl
 have a1_2 := HW2.out.cell 1 _ rfl
 have a2_2 := HW2.out.cell 2 _ rfl
 have a3_2 := HW2.out.cell 3 _ rfl
 have a4_2 := HW2.out.cell 4 _ rfl
 obtain ⟨f00_2, f01_2, f02_2, f03_2, f04_2⟩ := Nod.past F0.out hg HW2.out.new
 obtain ⟨f10_2, f11_2, f12_2, f13_2, f14_2⟩ := Nod.past F1.out hg HW2.out.new
 go_wp2_with fail
 refine (say1 HW2.out hbH hB0 ([42]) (by first | omega | (simp only [List.length_append]; omega))).mono ?_
 rintro e w3 ⟨rfl, HW3⟩
 clear a0_2 a1_2 a2_2 a3_2 a4_2 f00_2 f01_2 f02_2 f03_2 f04_2 f10_2 f11_2 f12_2 f13_2 f14_2
 have a0_3 := HW3.out.cell 0 _ rfl
 have a1_3 := HW3.out.cell 1 _ rfl
 have a2_3 := HW3.out.cell 2 _ rfl
 have a3_3 := HW3.out.cell 3 _ rfl
 have a4_3 := HW3.out.cell 4 _ rfl
 obtain ⟨f00_3, f01_3, f02_3, f03_3, f04_3⟩ := Nod.past F0.out hg HW3.out.new
 obtain ⟨f10_3, f11_3, f12_3, f13_3, f14_3⟩ := Nod.past F1.out hg HW3.out.new
 go_wp2_with fail
 refine (H1.out _ _ HW3.out.sz HW3.out.new HW3.out.pr (by first | omega | (simp only [List.length_append, List.length_cons, List.length_nil]; omega))).mono ?_
 rintro e w4 ⟨rfl, P1, P2, P3⟩
 have HW4 := hid (HW3.out.said hbH hB0 P1.out P2.out P3.out)
 clear P1 P2 P3
 clear a0_3 a1_3 a2_3 a3_3 a4_3 f00_3 f01_3 f02_3 f03_3 f04_3 f10_3 f11_3 f12_3 f13_3 f14_3
 go_wp2_with fail
 go_end0
 exact HW4.out.fin (by simp)

theorem pk_plus (w0 : World) (B b : Nat) (p m : Int) (x : List UInt8) (g o c : Nat) (k0 p0 : Int) (n0 : ByteArray) (m0 : Int) (v0 : Value) (k1 p1 : Int) (n1 : ByteArray) (m1 : Int) (v1 : Value) (t0 : List (List UInt8)) (t1 : List (List UInt8)) (hB0 : w0.heap.size ≤ B) (hg : g < w0.heap.size) (_hc : 2 ≤ c) (E0 : Nod w0 g (o) k0 p0 n0 m0 v0) (E1 : Nod w0 g (o + 5) k1 p1 n1 m1 v1) (h0 : WP w0 B b (Value.agg #[.int .i64 k0, .int .i64 p0, .string n0, .int .i64 m0, v0]) 3 t0) (h1 : WP w0 B b (Value.agg #[.int .i64 k1, .int .i64 p1, .string n1, .int .i64 m1, v1]) 4 t1) (hxx : x = [43]) :
  ∀ (w : World) (l : List (List UInt8)), B ≤ w.heap.size → Below w0.heap.size w0 w → PrAt B b l w → l.length + (t0 ++ [x] ++ t1).length ≤ 900000 →
  Calls Tryz.prog 88 #[.pointer (some ⟨b, 0, none⟩), .agg #[.int .i64 18, .int .i64 p, .string ⟨x.toArray⟩, .int .i64 m, .slice (some ⟨g, o, none⟩) 2 c]] w fun e w' => PPost w B b (l ++ (t0 ++ [x] ++ t1)) e w' := by
 intro w l hB hn hp hl
 have HXX := hid hxx
 clear hxx
 have hbH : w.heap.size ≠ b := by have := pr_lt hp; omega
 have H0 := hid h0
 have H1 := hid h1
 have F0 := hid E0
 have F1 := hid E1
 have hl2 := hl
 simp only [List.length_append, List.length_cons, List.length_nil] at hl2
 clear hl
 obtain ⟨W0, hW0⟩ : ∃ W, W = w.alloc (.cells #[.int .i64 18, .int .i64 p, .string ⟨x.toArray⟩, .int .i64 m, .slice (some ⟨g, o, none⟩) 2 c] 24) := ⟨_, rfl⟩
 have HW0 : Hid (Pw w0 w W0 B b w.heap.size #[.int .i64 18, .int .i64 p, .string ⟨x.toArray⟩, .int .i64 m, .slice (some ⟨g, o, none⟩) 2 c] l) := by rw [hW0]; exact Pw.start _ hp hB hn
 clear h0 h1 E0 E1 hp hn
 go_enter Tryz.func88, Tryz.ntmps88
 go_upto_region 1 with fail
 rw [← hW0]
 clear hW0
 have a0_0 := HW0.out.cell 0 _ rfl
 have a1_0 := HW0.out.cell 1 _ rfl
 have a2_0 := HW0.out.cell 2 _ rfl
 have a3_0 := HW0.out.cell 3 _ rfl
 have a4_0 := HW0.out.cell 4 _ rfl
 obtain ⟨f00_0, f01_0, f02_0, f03_0, f04_0⟩ := Nod.past F0.out hg HW0.out.new
 obtain ⟨f10_0, f11_0, f12_0, f13_0, f14_0⟩ := Nod.past F1.out hg HW0.out.new
 go_wp2_with fail
 refine (sides_plus p m x _ _ HXX.out).mono ?_
 rintro e w1 ⟨rfl, HQ1⟩
 have HW1 := hid (HW0.out.past HQ1.out)
 clear a0_0 a1_0 a2_0 a3_0 a4_0 f00_0 f01_0 f02_0 f03_0 f04_0 f10_0 f11_0 f12_0 f13_0 f14_0
 have a0_1 := HW1.out.cell 0 _ rfl
 have a1_1 := HW1.out.cell 1 _ rfl
 have a2_1 := HW1.out.cell 2 _ rfl
 have a3_1 := HW1.out.cell 3 _ rfl
 have a4_1 := HW1.out.cell 4 _ rfl
 obtain ⟨f00_1, f01_1, f02_1, f03_1, f04_1⟩ := Nod.past F0.out hg HW1.out.new
 obtain ⟨f10_1, f11_1, f12_1, f13_1, f14_1⟩ := Nod.past F1.out hg HW1.out.new
 go_wp2_with fail
 refine (H0.out _ _ HW1.out.sz HW1.out.new HW1.out.pr (by first | omega | (simp only [List.length_append, List.length_cons, List.length_nil]; omega))).mono ?_
 rintro e w2 ⟨rfl, P1, P2, P3⟩
 have HW2 := hid (HW1.out.said hbH hB0 P1.out P2.out P3.out)
 clear P1 P2 P3
 clear a0_1 a1_1 a2_1 a3_1 a4_1 f00_1 f01_1 f02_1 f03_1 f04_1 f10_1 f11_1 f12_1 f13_1 f14_1
 have a0_2 := HW2.out.cell 0 _ rfl
 have a1_2 := HW2.out.cell 1 _ rfl
 have a2_2 := HW2.out.cell 2 _ rfl
 have a3_2 := HW2.out.cell 3 _ rfl
 have a4_2 := HW2.out.cell 4 _ rfl
 obtain ⟨f00_2, f01_2, f02_2, f03_2, f04_2⟩ := Nod.past F0.out hg HW2.out.new
 obtain ⟨f10_2, f11_2, f12_2, f13_2, f14_2⟩ := Nod.past F1.out hg HW2.out.new
 go_wp2_with fail
 refine (say1 HW2.out hbH hB0 (x) (by first | omega | (simp only [List.length_append]; omega))).mono ?_
 rintro e w3 ⟨rfl, HW3⟩
 clear a0_2 a1_2 a2_2 a3_2 a4_2 f00_2 f01_2 f02_2 f03_2 f04_2 f10_2 f11_2 f12_2 f13_2 f14_2
 have a0_3 := HW3.out.cell 0 _ rfl
 have a1_3 := HW3.out.cell 1 _ rfl
 have a2_3 := HW3.out.cell 2 _ rfl
 have a3_3 := HW3.out.cell 3 _ rfl
 have a4_3 := HW3.out.cell 4 _ rfl
 obtain ⟨f00_3, f01_3, f02_3, f03_3, f04_3⟩ := Nod.past F0.out hg HW3.out.new
 obtain ⟨f10_3, f11_3, f12_3, f13_3, f14_3⟩ := Nod.past F1.out hg HW3.out.new
 go_wp2_with fail
 refine (H1.out _ _ HW3.out.sz HW3.out.new HW3.out.pr (by first | omega | (simp only [List.length_append, List.length_cons, List.length_nil]; omega))).mono ?_
 rintro e w4 ⟨rfl, P1, P2, P3⟩
 have HW4 := hid (HW3.out.said hbH hB0 P1.out P2.out P3.out)
 clear P1 P2 P3
 clear a0_3 a1_3 a2_3 a3_3 a4_3 f00_3 f01_3 f02_3 f03_3 f04_3 f10_3 f11_3 f12_3 f13_3 f14_3
 go_wp2_with fail
 go_end0
 exact HW4.out.fin (by simp)

theorem pk_minus (w0 : World) (B b : Nat) (p m : Int) (x : List UInt8) (g o c : Nat) (k0 p0 : Int) (n0 : ByteArray) (m0 : Int) (v0 : Value) (k1 p1 : Int) (n1 : ByteArray) (m1 : Int) (v1 : Value) (t0 : List (List UInt8)) (t1 : List (List UInt8)) (hB0 : w0.heap.size ≤ B) (hg : g < w0.heap.size) (_hc : 2 ≤ c) (E0 : Nod w0 g (o) k0 p0 n0 m0 v0) (E1 : Nod w0 g (o + 5) k1 p1 n1 m1 v1) (h0 : WP w0 B b (Value.agg #[.int .i64 k0, .int .i64 p0, .string n0, .int .i64 m0, v0]) 3 t0) (h1 : WP w0 B b (Value.agg #[.int .i64 k1, .int .i64 p1, .string n1, .int .i64 m1, v1]) 4 t1) (hxx : x = [45]) :
  ∀ (w : World) (l : List (List UInt8)), B ≤ w.heap.size → Below w0.heap.size w0 w → PrAt B b l w → l.length + (t0 ++ [x] ++ t1).length ≤ 900000 →
  Calls Tryz.prog 88 #[.pointer (some ⟨b, 0, none⟩), .agg #[.int .i64 18, .int .i64 p, .string ⟨x.toArray⟩, .int .i64 m, .slice (some ⟨g, o, none⟩) 2 c]] w fun e w' => PPost w B b (l ++ (t0 ++ [x] ++ t1)) e w' := by
 intro w l hB hn hp hl
 have HXX := hid hxx
 clear hxx
 have hbH : w.heap.size ≠ b := by have := pr_lt hp; omega
 have H0 := hid h0
 have H1 := hid h1
 have F0 := hid E0
 have F1 := hid E1
 have hl2 := hl
 simp only [List.length_append, List.length_cons, List.length_nil] at hl2
 clear hl
 obtain ⟨W0, hW0⟩ : ∃ W, W = w.alloc (.cells #[.int .i64 18, .int .i64 p, .string ⟨x.toArray⟩, .int .i64 m, .slice (some ⟨g, o, none⟩) 2 c] 24) := ⟨_, rfl⟩
 have HW0 : Hid (Pw w0 w W0 B b w.heap.size #[.int .i64 18, .int .i64 p, .string ⟨x.toArray⟩, .int .i64 m, .slice (some ⟨g, o, none⟩) 2 c] l) := by rw [hW0]; exact Pw.start _ hp hB hn
 clear h0 h1 E0 E1 hp hn
 go_enter Tryz.func88, Tryz.ntmps88
 go_upto_region 1 with fail
 rw [← hW0]
 clear hW0
 have a0_0 := HW0.out.cell 0 _ rfl
 have a1_0 := HW0.out.cell 1 _ rfl
 have a2_0 := HW0.out.cell 2 _ rfl
 have a3_0 := HW0.out.cell 3 _ rfl
 have a4_0 := HW0.out.cell 4 _ rfl
 obtain ⟨f00_0, f01_0, f02_0, f03_0, f04_0⟩ := Nod.past F0.out hg HW0.out.new
 obtain ⟨f10_0, f11_0, f12_0, f13_0, f14_0⟩ := Nod.past F1.out hg HW0.out.new
 go_wp2_with fail
 refine (sides_minus p m x _ _ HXX.out).mono ?_
 rintro e w1 ⟨rfl, HQ1⟩
 have HW1 := hid (HW0.out.past HQ1.out)
 clear a0_0 a1_0 a2_0 a3_0 a4_0 f00_0 f01_0 f02_0 f03_0 f04_0 f10_0 f11_0 f12_0 f13_0 f14_0
 have a0_1 := HW1.out.cell 0 _ rfl
 have a1_1 := HW1.out.cell 1 _ rfl
 have a2_1 := HW1.out.cell 2 _ rfl
 have a3_1 := HW1.out.cell 3 _ rfl
 have a4_1 := HW1.out.cell 4 _ rfl
 obtain ⟨f00_1, f01_1, f02_1, f03_1, f04_1⟩ := Nod.past F0.out hg HW1.out.new
 obtain ⟨f10_1, f11_1, f12_1, f13_1, f14_1⟩ := Nod.past F1.out hg HW1.out.new
 go_wp2_with fail
 refine (H0.out _ _ HW1.out.sz HW1.out.new HW1.out.pr (by first | omega | (simp only [List.length_append, List.length_cons, List.length_nil]; omega))).mono ?_
 rintro e w2 ⟨rfl, P1, P2, P3⟩
 have HW2 := hid (HW1.out.said hbH hB0 P1.out P2.out P3.out)
 clear P1 P2 P3
 clear a0_1 a1_1 a2_1 a3_1 a4_1 f00_1 f01_1 f02_1 f03_1 f04_1 f10_1 f11_1 f12_1 f13_1 f14_1
 have a0_2 := HW2.out.cell 0 _ rfl
 have a1_2 := HW2.out.cell 1 _ rfl
 have a2_2 := HW2.out.cell 2 _ rfl
 have a3_2 := HW2.out.cell 3 _ rfl
 have a4_2 := HW2.out.cell 4 _ rfl
 obtain ⟨f00_2, f01_2, f02_2, f03_2, f04_2⟩ := Nod.past F0.out hg HW2.out.new
 obtain ⟨f10_2, f11_2, f12_2, f13_2, f14_2⟩ := Nod.past F1.out hg HW2.out.new
 go_wp2_with fail
 refine (say1 HW2.out hbH hB0 (x) (by first | omega | (simp only [List.length_append]; omega))).mono ?_
 rintro e w3 ⟨rfl, HW3⟩
 clear a0_2 a1_2 a2_2 a3_2 a4_2 f00_2 f01_2 f02_2 f03_2 f04_2 f10_2 f11_2 f12_2 f13_2 f14_2
 have a0_3 := HW3.out.cell 0 _ rfl
 have a1_3 := HW3.out.cell 1 _ rfl
 have a2_3 := HW3.out.cell 2 _ rfl
 have a3_3 := HW3.out.cell 3 _ rfl
 have a4_3 := HW3.out.cell 4 _ rfl
 obtain ⟨f00_3, f01_3, f02_3, f03_3, f04_3⟩ := Nod.past F0.out hg HW3.out.new
 obtain ⟨f10_3, f11_3, f12_3, f13_3, f14_3⟩ := Nod.past F1.out hg HW3.out.new
 go_wp2_with fail
 refine (H1.out _ _ HW3.out.sz HW3.out.new HW3.out.pr (by first | omega | (simp only [List.length_append, List.length_cons, List.length_nil]; omega))).mono ?_
 rintro e w4 ⟨rfl, P1, P2, P3⟩
 have HW4 := hid (HW3.out.said hbH hB0 P1.out P2.out P3.out)
 clear P1 P2 P3
 clear a0_3 a1_3 a2_3 a3_3 a4_3 f00_3 f01_3 f02_3 f03_3 f04_3 f10_3 f11_3 f12_3 f13_3 f14_3
 go_wp2_with fail
 go_end0
 exact HW4.out.fin (by simp)

theorem pk_star (w0 : World) (B b : Nat) (p m : Int) (x : List UInt8) (g o c : Nat) (k0 p0 : Int) (n0 : ByteArray) (m0 : Int) (v0 : Value) (k1 p1 : Int) (n1 : ByteArray) (m1 : Int) (v1 : Value) (t0 : List (List UInt8)) (t1 : List (List UInt8)) (hB0 : w0.heap.size ≤ B) (hg : g < w0.heap.size) (_hc : 2 ≤ c) (E0 : Nod w0 g (o) k0 p0 n0 m0 v0) (E1 : Nod w0 g (o + 5) k1 p1 n1 m1 v1) (h0 : WP w0 B b (Value.agg #[.int .i64 k0, .int .i64 p0, .string n0, .int .i64 m0, v0]) 4 t0) (h1 : WP w0 B b (Value.agg #[.int .i64 k1, .int .i64 p1, .string n1, .int .i64 m1, v1]) 5 t1) (hxx : x = [42]) :
  ∀ (w : World) (l : List (List UInt8)), B ≤ w.heap.size → Below w0.heap.size w0 w → PrAt B b l w → l.length + (t0 ++ [x] ++ t1).length ≤ 900000 →
  Calls Tryz.prog 88 #[.pointer (some ⟨b, 0, none⟩), .agg #[.int .i64 18, .int .i64 p, .string ⟨x.toArray⟩, .int .i64 m, .slice (some ⟨g, o, none⟩) 2 c]] w fun e w' => PPost w B b (l ++ (t0 ++ [x] ++ t1)) e w' := by
 intro w l hB hn hp hl
 have HXX := hid hxx
 clear hxx
 have hbH : w.heap.size ≠ b := by have := pr_lt hp; omega
 have H0 := hid h0
 have H1 := hid h1
 have F0 := hid E0
 have F1 := hid E1
 have hl2 := hl
 simp only [List.length_append, List.length_cons, List.length_nil] at hl2
 clear hl
 obtain ⟨W0, hW0⟩ : ∃ W, W = w.alloc (.cells #[.int .i64 18, .int .i64 p, .string ⟨x.toArray⟩, .int .i64 m, .slice (some ⟨g, o, none⟩) 2 c] 24) := ⟨_, rfl⟩
 have HW0 : Hid (Pw w0 w W0 B b w.heap.size #[.int .i64 18, .int .i64 p, .string ⟨x.toArray⟩, .int .i64 m, .slice (some ⟨g, o, none⟩) 2 c] l) := by rw [hW0]; exact Pw.start _ hp hB hn
 clear h0 h1 E0 E1 hp hn
 go_enter Tryz.func88, Tryz.ntmps88
 go_upto_region 1 with fail
 rw [← hW0]
 clear hW0
 have a0_0 := HW0.out.cell 0 _ rfl
 have a1_0 := HW0.out.cell 1 _ rfl
 have a2_0 := HW0.out.cell 2 _ rfl
 have a3_0 := HW0.out.cell 3 _ rfl
 have a4_0 := HW0.out.cell 4 _ rfl
 obtain ⟨f00_0, f01_0, f02_0, f03_0, f04_0⟩ := Nod.past F0.out hg HW0.out.new
 obtain ⟨f10_0, f11_0, f12_0, f13_0, f14_0⟩ := Nod.past F1.out hg HW0.out.new
 go_wp2_with fail
 refine (sides_star p m x _ _ HXX.out).mono ?_
 rintro e w1 ⟨rfl, HQ1⟩
 have HW1 := hid (HW0.out.past HQ1.out)
 clear a0_0 a1_0 a2_0 a3_0 a4_0 f00_0 f01_0 f02_0 f03_0 f04_0 f10_0 f11_0 f12_0 f13_0 f14_0
 have a0_1 := HW1.out.cell 0 _ rfl
 have a1_1 := HW1.out.cell 1 _ rfl
 have a2_1 := HW1.out.cell 2 _ rfl
 have a3_1 := HW1.out.cell 3 _ rfl
 have a4_1 := HW1.out.cell 4 _ rfl
 obtain ⟨f00_1, f01_1, f02_1, f03_1, f04_1⟩ := Nod.past F0.out hg HW1.out.new
 obtain ⟨f10_1, f11_1, f12_1, f13_1, f14_1⟩ := Nod.past F1.out hg HW1.out.new
 go_wp2_with fail
 refine (H0.out _ _ HW1.out.sz HW1.out.new HW1.out.pr (by first | omega | (simp only [List.length_append, List.length_cons, List.length_nil]; omega))).mono ?_
 rintro e w2 ⟨rfl, P1, P2, P3⟩
 have HW2 := hid (HW1.out.said hbH hB0 P1.out P2.out P3.out)
 clear P1 P2 P3
 clear a0_1 a1_1 a2_1 a3_1 a4_1 f00_1 f01_1 f02_1 f03_1 f04_1 f10_1 f11_1 f12_1 f13_1 f14_1
 have a0_2 := HW2.out.cell 0 _ rfl
 have a1_2 := HW2.out.cell 1 _ rfl
 have a2_2 := HW2.out.cell 2 _ rfl
 have a3_2 := HW2.out.cell 3 _ rfl
 have a4_2 := HW2.out.cell 4 _ rfl
 obtain ⟨f00_2, f01_2, f02_2, f03_2, f04_2⟩ := Nod.past F0.out hg HW2.out.new
 obtain ⟨f10_2, f11_2, f12_2, f13_2, f14_2⟩ := Nod.past F1.out hg HW2.out.new
 go_wp2_with fail
 refine (say1 HW2.out hbH hB0 (x) (by first | omega | (simp only [List.length_append]; omega))).mono ?_
 rintro e w3 ⟨rfl, HW3⟩
 clear a0_2 a1_2 a2_2 a3_2 a4_2 f00_2 f01_2 f02_2 f03_2 f04_2 f10_2 f11_2 f12_2 f13_2 f14_2
 have a0_3 := HW3.out.cell 0 _ rfl
 have a1_3 := HW3.out.cell 1 _ rfl
 have a2_3 := HW3.out.cell 2 _ rfl
 have a3_3 := HW3.out.cell 3 _ rfl
 have a4_3 := HW3.out.cell 4 _ rfl
 obtain ⟨f00_3, f01_3, f02_3, f03_3, f04_3⟩ := Nod.past F0.out hg HW3.out.new
 obtain ⟨f10_3, f11_3, f12_3, f13_3, f14_3⟩ := Nod.past F1.out hg HW3.out.new
 go_wp2_with fail
 refine (H1.out _ _ HW3.out.sz HW3.out.new HW3.out.pr (by first | omega | (simp only [List.length_append, List.length_cons, List.length_nil]; omega))).mono ?_
 rintro e w4 ⟨rfl, P1, P2, P3⟩
 have HW4 := hid (HW3.out.said hbH hB0 P1.out P2.out P3.out)
 clear P1 P2 P3
 clear a0_3 a1_3 a2_3 a3_3 a4_3 f00_3 f01_3 f02_3 f03_3 f04_3 f10_3 f11_3 f12_3 f13_3 f14_3
 go_wp2_with fail
 go_end0
 exact HW4.out.fin (by simp)

theorem pk_lt (w0 : World) (B b : Nat) (p m : Int) (x : List UInt8) (g o c : Nat) (k0 p0 : Int) (n0 : ByteArray) (m0 : Int) (v0 : Value) (k1 p1 : Int) (n1 : ByteArray) (m1 : Int) (v1 : Value) (t0 : List (List UInt8)) (t1 : List (List UInt8)) (hB0 : w0.heap.size ≤ B) (hg : g < w0.heap.size) (_hc : 2 ≤ c) (E0 : Nod w0 g (o) k0 p0 n0 m0 v0) (E1 : Nod w0 g (o + 5) k1 p1 n1 m1 v1) (h0 : WP w0 B b (Value.agg #[.int .i64 k0, .int .i64 p0, .string n0, .int .i64 m0, v0]) 2 t0) (h1 : WP w0 B b (Value.agg #[.int .i64 k1, .int .i64 p1, .string n1, .int .i64 m1, v1]) 2 t1) (hxx : x = [60]) :
  ∀ (w : World) (l : List (List UInt8)), B ≤ w.heap.size → Below w0.heap.size w0 w → PrAt B b l w → l.length + (t0 ++ [x] ++ t1).length ≤ 900000 →
  Calls Tryz.prog 88 #[.pointer (some ⟨b, 0, none⟩), .agg #[.int .i64 18, .int .i64 p, .string ⟨x.toArray⟩, .int .i64 m, .slice (some ⟨g, o, none⟩) 2 c]] w fun e w' => PPost w B b (l ++ (t0 ++ [x] ++ t1)) e w' := by
 intro w l hB hn hp hl
 have HXX := hid hxx
 clear hxx
 have hbH : w.heap.size ≠ b := by have := pr_lt hp; omega
 have H0 := hid h0
 have H1 := hid h1
 have F0 := hid E0
 have F1 := hid E1
 have hl2 := hl
 simp only [List.length_append, List.length_cons, List.length_nil] at hl2
 clear hl
 obtain ⟨W0, hW0⟩ : ∃ W, W = w.alloc (.cells #[.int .i64 18, .int .i64 p, .string ⟨x.toArray⟩, .int .i64 m, .slice (some ⟨g, o, none⟩) 2 c] 24) := ⟨_, rfl⟩
 have HW0 : Hid (Pw w0 w W0 B b w.heap.size #[.int .i64 18, .int .i64 p, .string ⟨x.toArray⟩, .int .i64 m, .slice (some ⟨g, o, none⟩) 2 c] l) := by rw [hW0]; exact Pw.start _ hp hB hn
 clear h0 h1 E0 E1 hp hn
 go_enter Tryz.func88, Tryz.ntmps88
 go_upto_region 1 with fail
 rw [← hW0]
 clear hW0
 have a0_0 := HW0.out.cell 0 _ rfl
 have a1_0 := HW0.out.cell 1 _ rfl
 have a2_0 := HW0.out.cell 2 _ rfl
 have a3_0 := HW0.out.cell 3 _ rfl
 have a4_0 := HW0.out.cell 4 _ rfl
 obtain ⟨f00_0, f01_0, f02_0, f03_0, f04_0⟩ := Nod.past F0.out hg HW0.out.new
 obtain ⟨f10_0, f11_0, f12_0, f13_0, f14_0⟩ := Nod.past F1.out hg HW0.out.new
 go_wp2_with fail
 refine (sides_lt p m x _ _ HXX.out).mono ?_
 rintro e w1 ⟨rfl, HQ1⟩
 have HW1 := hid (HW0.out.past HQ1.out)
 clear a0_0 a1_0 a2_0 a3_0 a4_0 f00_0 f01_0 f02_0 f03_0 f04_0 f10_0 f11_0 f12_0 f13_0 f14_0
 have a0_1 := HW1.out.cell 0 _ rfl
 have a1_1 := HW1.out.cell 1 _ rfl
 have a2_1 := HW1.out.cell 2 _ rfl
 have a3_1 := HW1.out.cell 3 _ rfl
 have a4_1 := HW1.out.cell 4 _ rfl
 obtain ⟨f00_1, f01_1, f02_1, f03_1, f04_1⟩ := Nod.past F0.out hg HW1.out.new
 obtain ⟨f10_1, f11_1, f12_1, f13_1, f14_1⟩ := Nod.past F1.out hg HW1.out.new
 go_wp2_with fail
 refine (H0.out _ _ HW1.out.sz HW1.out.new HW1.out.pr (by first | omega | (simp only [List.length_append, List.length_cons, List.length_nil]; omega))).mono ?_
 rintro e w2 ⟨rfl, P1, P2, P3⟩
 have HW2 := hid (HW1.out.said hbH hB0 P1.out P2.out P3.out)
 clear P1 P2 P3
 clear a0_1 a1_1 a2_1 a3_1 a4_1 f00_1 f01_1 f02_1 f03_1 f04_1 f10_1 f11_1 f12_1 f13_1 f14_1
 have a0_2 := HW2.out.cell 0 _ rfl
 have a1_2 := HW2.out.cell 1 _ rfl
 have a2_2 := HW2.out.cell 2 _ rfl
 have a3_2 := HW2.out.cell 3 _ rfl
 have a4_2 := HW2.out.cell 4 _ rfl
 obtain ⟨f00_2, f01_2, f02_2, f03_2, f04_2⟩ := Nod.past F0.out hg HW2.out.new
 obtain ⟨f10_2, f11_2, f12_2, f13_2, f14_2⟩ := Nod.past F1.out hg HW2.out.new
 go_wp2_with fail
 refine (say1 HW2.out hbH hB0 (x) (by first | omega | (simp only [List.length_append]; omega))).mono ?_
 rintro e w3 ⟨rfl, HW3⟩
 clear a0_2 a1_2 a2_2 a3_2 a4_2 f00_2 f01_2 f02_2 f03_2 f04_2 f10_2 f11_2 f12_2 f13_2 f14_2
 have a0_3 := HW3.out.cell 0 _ rfl
 have a1_3 := HW3.out.cell 1 _ rfl
 have a2_3 := HW3.out.cell 2 _ rfl
 have a3_3 := HW3.out.cell 3 _ rfl
 have a4_3 := HW3.out.cell 4 _ rfl
 obtain ⟨f00_3, f01_3, f02_3, f03_3, f04_3⟩ := Nod.past F0.out hg HW3.out.new
 obtain ⟨f10_3, f11_3, f12_3, f13_3, f14_3⟩ := Nod.past F1.out hg HW3.out.new
 go_wp2_with fail
 refine (H1.out _ _ HW3.out.sz HW3.out.new HW3.out.pr (by first | omega | (simp only [List.length_append, List.length_cons, List.length_nil]; omega))).mono ?_
 rintro e w4 ⟨rfl, P1, P2, P3⟩
 have HW4 := hid (HW3.out.said hbH hB0 P1.out P2.out P3.out)
 clear P1 P2 P3
 clear a0_3 a1_3 a2_3 a3_3 a4_3 f00_3 f01_3 f02_3 f03_3 f04_3 f10_3 f11_3 f12_3 f13_3 f14_3
 go_wp2_with fail
 go_end0
 exact HW4.out.fin (by simp)

theorem pk_eq (w0 : World) (B b : Nat) (p m : Int) (x : List UInt8) (g o c : Nat) (k0 p0 : Int) (n0 : ByteArray) (m0 : Int) (v0 : Value) (k1 p1 : Int) (n1 : ByteArray) (m1 : Int) (v1 : Value) (t0 : List (List UInt8)) (t1 : List (List UInt8)) (hB0 : w0.heap.size ≤ B) (hg : g < w0.heap.size) (_hc : 2 ≤ c) (E0 : Nod w0 g (o) k0 p0 n0 m0 v0) (E1 : Nod w0 g (o + 5) k1 p1 n1 m1 v1) (h0 : WP w0 B b (Value.agg #[.int .i64 k0, .int .i64 p0, .string n0, .int .i64 m0, v0]) 2 t0) (h1 : WP w0 B b (Value.agg #[.int .i64 k1, .int .i64 p1, .string n1, .int .i64 m1, v1]) 2 t1) (hxx : x = [61, 61]) :
  ∀ (w : World) (l : List (List UInt8)), B ≤ w.heap.size → Below w0.heap.size w0 w → PrAt B b l w → l.length + (t0 ++ [x] ++ t1).length ≤ 900000 →
  Calls Tryz.prog 88 #[.pointer (some ⟨b, 0, none⟩), .agg #[.int .i64 18, .int .i64 p, .string ⟨x.toArray⟩, .int .i64 m, .slice (some ⟨g, o, none⟩) 2 c]] w fun e w' => PPost w B b (l ++ (t0 ++ [x] ++ t1)) e w' := by
 intro w l hB hn hp hl
 have HXX := hid hxx
 clear hxx
 have hbH : w.heap.size ≠ b := by have := pr_lt hp; omega
 have H0 := hid h0
 have H1 := hid h1
 have F0 := hid E0
 have F1 := hid E1
 have hl2 := hl
 simp only [List.length_append, List.length_cons, List.length_nil] at hl2
 clear hl
 obtain ⟨W0, hW0⟩ : ∃ W, W = w.alloc (.cells #[.int .i64 18, .int .i64 p, .string ⟨x.toArray⟩, .int .i64 m, .slice (some ⟨g, o, none⟩) 2 c] 24) := ⟨_, rfl⟩
 have HW0 : Hid (Pw w0 w W0 B b w.heap.size #[.int .i64 18, .int .i64 p, .string ⟨x.toArray⟩, .int .i64 m, .slice (some ⟨g, o, none⟩) 2 c] l) := by rw [hW0]; exact Pw.start _ hp hB hn
 clear h0 h1 E0 E1 hp hn
 go_enter Tryz.func88, Tryz.ntmps88
 go_upto_region 1 with fail
 rw [← hW0]
 clear hW0
 have a0_0 := HW0.out.cell 0 _ rfl
 have a1_0 := HW0.out.cell 1 _ rfl
 have a2_0 := HW0.out.cell 2 _ rfl
 have a3_0 := HW0.out.cell 3 _ rfl
 have a4_0 := HW0.out.cell 4 _ rfl
 obtain ⟨f00_0, f01_0, f02_0, f03_0, f04_0⟩ := Nod.past F0.out hg HW0.out.new
 obtain ⟨f10_0, f11_0, f12_0, f13_0, f14_0⟩ := Nod.past F1.out hg HW0.out.new
 go_wp2_with fail
 refine (sides_eq p m x _ _ HXX.out).mono ?_
 rintro e w1 ⟨rfl, HQ1⟩
 have HW1 := hid (HW0.out.past HQ1.out)
 clear a0_0 a1_0 a2_0 a3_0 a4_0 f00_0 f01_0 f02_0 f03_0 f04_0 f10_0 f11_0 f12_0 f13_0 f14_0
 have a0_1 := HW1.out.cell 0 _ rfl
 have a1_1 := HW1.out.cell 1 _ rfl
 have a2_1 := HW1.out.cell 2 _ rfl
 have a3_1 := HW1.out.cell 3 _ rfl
 have a4_1 := HW1.out.cell 4 _ rfl
 obtain ⟨f00_1, f01_1, f02_1, f03_1, f04_1⟩ := Nod.past F0.out hg HW1.out.new
 obtain ⟨f10_1, f11_1, f12_1, f13_1, f14_1⟩ := Nod.past F1.out hg HW1.out.new
 go_wp2_with fail
 refine (H0.out _ _ HW1.out.sz HW1.out.new HW1.out.pr (by first | omega | (simp only [List.length_append, List.length_cons, List.length_nil]; omega))).mono ?_
 rintro e w2 ⟨rfl, P1, P2, P3⟩
 have HW2 := hid (HW1.out.said hbH hB0 P1.out P2.out P3.out)
 clear P1 P2 P3
 clear a0_1 a1_1 a2_1 a3_1 a4_1 f00_1 f01_1 f02_1 f03_1 f04_1 f10_1 f11_1 f12_1 f13_1 f14_1
 have a0_2 := HW2.out.cell 0 _ rfl
 have a1_2 := HW2.out.cell 1 _ rfl
 have a2_2 := HW2.out.cell 2 _ rfl
 have a3_2 := HW2.out.cell 3 _ rfl
 have a4_2 := HW2.out.cell 4 _ rfl
 obtain ⟨f00_2, f01_2, f02_2, f03_2, f04_2⟩ := Nod.past F0.out hg HW2.out.new
 obtain ⟨f10_2, f11_2, f12_2, f13_2, f14_2⟩ := Nod.past F1.out hg HW2.out.new
 go_wp2_with fail
 refine (say1 HW2.out hbH hB0 (x) (by first | omega | (simp only [List.length_append]; omega))).mono ?_
 rintro e w3 ⟨rfl, HW3⟩
 clear a0_2 a1_2 a2_2 a3_2 a4_2 f00_2 f01_2 f02_2 f03_2 f04_2 f10_2 f11_2 f12_2 f13_2 f14_2
 have a0_3 := HW3.out.cell 0 _ rfl
 have a1_3 := HW3.out.cell 1 _ rfl
 have a2_3 := HW3.out.cell 2 _ rfl
 have a3_3 := HW3.out.cell 3 _ rfl
 have a4_3 := HW3.out.cell 4 _ rfl
 obtain ⟨f00_3, f01_3, f02_3, f03_3, f04_3⟩ := Nod.past F0.out hg HW3.out.new
 obtain ⟨f10_3, f11_3, f12_3, f13_3, f14_3⟩ := Nod.past F1.out hg HW3.out.new
 go_wp2_with fail
 refine (H1.out _ _ HW3.out.sz HW3.out.new HW3.out.pr (by first | omega | (simp only [List.length_append, List.length_cons, List.length_nil]; omega))).mono ?_
 rintro e w4 ⟨rfl, P1, P2, P3⟩
 have HW4 := hid (HW3.out.said hbH hB0 P1.out P2.out P3.out)
 clear P1 P2 P3
 clear a0_3 a1_3 a2_3 a3_3 a4_3 f00_3 f01_3 f02_3 f03_3 f04_3 f10_3 f11_3 f12_3 f13_3 f14_3
 go_wp2_with fail
 go_end0
 exact HW4.out.fin (by simp)
end Go.Proofs.YtoajnlhegallpaaGreatDoor
