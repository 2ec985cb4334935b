/-
  The program's printer: behind; fn, if, pairs, what a handler returns.
  The program's printer: the levels of two sides.
-/
import Derived.Test.YtoajnlhegallpaaGreatDoorMPa
set_option linter.unusedVariables false
set_option linter.unusedSimpArgs false
set_option maxRecDepth 100000
set_option maxHeartbeats 8000000
namespace Go.Proofs.YtoajnlhegallpaaGreatDoor
open Go.RowKit

theorem behind_any (w0 : World) (B b : Nat) (tok : List UInt8) {k p m : Int} {n : ByteArray} {u : Value} (ts : List (List UInt8)) (hB0 : w0.heap.size ≤ B) (h : WP w0 B b (.agg #[.int .i64 k, .int .i64 p, .string n, .int .i64 m, u]) 0 ts) :
  ∀ (w : World) (l : List (List UInt8)), B ≤ w.heap.size → Below w0.heap.size w0 w → PrAt B b l w → l.length + (tok :: ts).length ≤ 900000 →
  Calls Tryz.prog 85 #[.pointer (some ⟨b, 0, none⟩), .string ⟨tok.toArray⟩, .agg #[.int .i64 k, .int .i64 p, .string n, .int .i64 m, u]] w fun e w' => PPost w B b (l ++ tok :: ts) e w' := by
 intro w l hB hn hp hl
 have hbH : w.heap.size ≠ b := by have := pr_lt hp; omega
 have H0 := hid h
 obtain ⟨W0, hW0⟩ : ∃ W, W = w.alloc (.cells #[.int .i64 k, .int .i64 p, .string n, .int .i64 m, u] 24) := ⟨_, rfl⟩
 have HW0 : Hid (Pw w0 w W0 B b w.heap.size #[.int .i64 k, .int .i64 p, .string n, .int .i64 m, u] l) := by rw [hW0]; exact Pw.start _ hp hB hn
 have hl2 : l.length + (ts.length + 1) ≤ 900000 := by simpa using hl
 clear h hp hn hl
 go_enter Tryz.func85, Tryz.ntmps85
 go_upto_region 1 with fail
 rw [← hW0]
 clear hW0
 go_wp2_with fail
 refine (say1 HW0.out hbH hB0 tok (by omega)).mono ?_
 rintro e w1 ⟨rfl, HW1⟩
 have a0 := HW1.out.cell 0 _ rfl
 have a1 := HW1.out.cell 1 _ rfl
 have a2 := HW1.out.cell 2 _ rfl
 have a3 := HW1.out.cell 3 _ rfl
 have a4 := HW1.out.cell 4 _ rfl
 go_wp2_with fail
 refine (H0.out _ _ HW1.out.sz HW1.out.new HW1.out.pr (by simp; omega)).mono ?_
 rintro e w2 ⟨rfl, P1, P2, P3⟩
 have HW2 := hid (HW1.out.said hbH hB0 P1.out P2.out P3.out)
 go_wp2_with fail
 go_end0
 exact HW2.out.fin (by simp)
theorem pk_fn (w0 : World) (B b : Nat) (p m : Int) (x : List UInt8) (g o c : Nat) (k0 p0 : Int) (n0 : ByteArray) (m0 : Int) (v0 : Value) (t0 : List (List UInt8)) (hB0 : w0.heap.size ≤ B) (hg : g < w0.heap.size) (_hc : 1 ≤ c) (E0 : Nod w0 g (o) k0 p0 n0 m0 v0) (h0 : WP w0 B b (Value.agg #[.int .i64 k0, .int .i64 p0, .string n0, .int .i64 m0, v0]) 0 t0) :
  ∀ (w : World) (l : List (List UInt8)), B ≤ w.heap.size → Below w0.heap.size w0 w → PrAt B b l w → l.length + ([[102, 110], x] ++ ([61, 62] :: t0)).length ≤ 900000 →
  Calls Tryz.prog 48 #[.pointer (some ⟨b, 0, none⟩), .agg #[.int .i64 7, .int .i64 p, .string ⟨x.toArray⟩, .int .i64 m, .slice (some ⟨g, o, none⟩) 1 c]] w fun e w' => PPost w B b (l ++ ([[102, 110], x] ++ ([61, 62] :: t0))) e w' := by
 intro w l hB hn hp hl
 have hbH : w.heap.size ≠ b := by have := pr_lt hp; omega
 have H0 := hid h0
 have F0 := hid E0
 have hl2 := hl
 simp only [List.length_append, List.length_cons, List.length_nil] at hl2
 clear hl
 obtain ⟨W0, hW0⟩ : ∃ W, W = w.alloc (.cells #[.int .i64 7, .int .i64 p, .string ⟨x.toArray⟩, .int .i64 m, .slice (some ⟨g, o, none⟩) 1 c] 24) := ⟨_, rfl⟩
 have HW0 : Hid (Pw w0 w W0 B b w.heap.size #[.int .i64 7, .int .i64 p, .string ⟨x.toArray⟩, .int .i64 m, .slice (some ⟨g, o, none⟩) 1 c] l) := by rw [hW0]; exact Pw.start _ hp hB hn
 clear h0 E0 hp hn
 go_enter Tryz.func48, Tryz.ntmps48
 go_upto_region 1 with fail
 rw [← hW0]
 clear hW0
 have a0_0 := HW0.out.cell 0 _ rfl
 have a1_0 := HW0.out.cell 1 _ rfl
 have a2_0 := HW0.out.cell 2 _ rfl
 have a3_0 := HW0.out.cell 3 _ rfl
 have a4_0 := HW0.out.cell 4 _ rfl
 obtain ⟨f00_0, f01_0, f02_0, f03_0, f04_0⟩ := Nod.past F0.out hg HW0.out.new
 go_wp2_with fail
 refine (say2 HW0.out hbH hB0 ([102, 110]) (x) (by first | omega | (simp only [List.length_append, List.length_cons, List.length_nil]; omega))).mono ?_
 rintro e w1 ⟨rfl, HW1⟩
 clear a0_0 a1_0 a2_0 a3_0 a4_0 f00_0 f01_0 f02_0 f03_0 f04_0
 have a0_1 := HW1.out.cell 0 _ rfl
 have a1_1 := HW1.out.cell 1 _ rfl
 have a2_1 := HW1.out.cell 2 _ rfl
 have a3_1 := HW1.out.cell 3 _ rfl
 have a4_1 := HW1.out.cell 4 _ rfl
 obtain ⟨f00_1, f01_1, f02_1, f03_1, f04_1⟩ := Nod.past F0.out hg HW1.out.new
 go_wp2_with fail
 refine (behind_any w0 B b [61, 62] t0 hB0 H0.out _ _ HW1.out.sz HW1.out.new HW1.out.pr (by first | omega | (simp only [List.length_append, List.length_cons, List.length_nil]; omega))).mono ?_
 rintro e w2 ⟨rfl, P1, P2, P3⟩
 have HW2 := hid (HW1.out.said hbH hB0 P1.out P2.out P3.out)
 clear P1 P2 P3
 clear a0_1 a1_1 a2_1 a3_1 a4_1 f00_1 f01_1 f02_1 f03_1 f04_1
 go_wp2_with fail
 go_end0
 exact HW2.out.fin (by simp)

theorem pk_if (w0 : World) (B b : Nat) (p m : Int) (x : List UInt8) (g o c : Nat) (k0 p0 : Int) (n0 : ByteArray) (m0 : Int) (v0 : Value) (k1 p1 : Int) (n1 : ByteArray) (m1 : Int) (v1 : Value) (k2 p2 : Int) (n2 : ByteArray) (m2 : Int) (v2 : Value) (t0 : List (List UInt8)) (t1 : List (List UInt8)) (t2 : List (List UInt8)) (hB0 : w0.heap.size ≤ B) (hg : g < w0.heap.size) (_hc : 3 ≤ c) (E0 : Nod w0 g (o) k0 p0 n0 m0 v0) (E1 : Nod w0 g (o + 5) k1 p1 n1 m1 v1) (E2 : Nod w0 g (o + 10) k2 p2 n2 m2 v2) (h0 : WP w0 B b (Value.agg #[.int .i64 k0, .int .i64 p0, .string n0, .int .i64 m0, v0]) 0 t0) (h1 : WP w0 B b (Value.agg #[.int .i64 k1, .int .i64 p1, .string n1, .int .i64 m1, v1]) 0 t1) (h2 : WP w0 B b (Value.agg #[.int .i64 k2, .int .i64 p2, .string n2, .int .i64 m2, v2]) 0 t2) :
  ∀ (w : World) (l : List (List UInt8)), B ≤ w.heap.size → Below w0.heap.size w0 w → PrAt B b l w → l.length + (([105, 102] :: t0) ++ ([116, 104, 101, 110] :: t1) ++ ([101, 108, 115, 101] :: t2)).length ≤ 900000 →
  Calls Tryz.prog 48 #[.pointer (some ⟨b, 0, none⟩), .agg #[.int .i64 11, .int .i64 p, .string ⟨x.toArray⟩, .int .i64 m, .slice (some ⟨g, o, none⟩) 3 c]] w fun e w' => PPost w B b (l ++ (([105, 102] :: t0) ++ ([116, 104, 101, 110] :: t1) ++ ([101, 108, 115, 101] :: t2))) e w' := by
 intro w l hB hn hp hl
 have hbH : w.heap.size ≠ b := by have := pr_lt hp; omega
 have H0 := hid h0
 have H1 := hid h1
 have H2 := hid h2
 have F0 := hid E0
 have F1 := hid E1
 have F2 := hid E2
 have hl2 := hl
 simp only [List.length_append, List.length_cons] at hl2
 clear hl
 obtain ⟨W0, hW0⟩ : ∃ W, W = w.alloc (.cells #[.int .i64 11, .int .i64 p, .string ⟨x.toArray⟩, .int .i64 m, .slice (some ⟨g, o, none⟩) 3 c] 24) := ⟨_, rfl⟩
 have HW0 : Hid (Pw w0 w W0 B b w.heap.size #[.int .i64 11, .int .i64 p, .string ⟨x.toArray⟩, .int .i64 m, .slice (some ⟨g, o, none⟩) 3 c] l) := by rw [hW0]; exact Pw.start _ hp hB hn
 clear h0 h1 h2 E0 E1 E2 hp hn
 go_enter Tryz.func48, Tryz.ntmps48
 go_upto_region 1 with fail
 rw [← hW0]
 clear hW0
 have a0_0 := HW0.out.cell 0 _ rfl
 have a1_0 := HW0.out.cell 1 _ rfl
 have a2_0 := HW0.out.cell 2 _ rfl
 have a3_0 := HW0.out.cell 3 _ rfl
 have a4_0 := HW0.out.cell 4 _ rfl
 obtain ⟨f00_0, f01_0, f02_0, f03_0, f04_0⟩ := Nod.past F0.out hg HW0.out.new
 obtain ⟨f10_0, f11_0, f12_0, f13_0, f14_0⟩ := Nod.past F1.out hg HW0.out.new
 obtain ⟨f20_0, f21_0, f22_0, f23_0, f24_0⟩ := Nod.past F2.out hg HW0.out.new
 go_wp2_with fail
 refine (behind_any w0 B b [105, 102] t0 hB0 H0.out _ _ HW0.out.sz HW0.out.new HW0.out.pr (by first | omega | (simp only [List.length_cons]; omega))).mono ?_
 rintro e w1 ⟨rfl, P1, P2, P3⟩
 have HW1 := hid (HW0.out.said hbH hB0 P1.out P2.out P3.out)
 clear P1 P2 P3
 clear a0_0 a1_0 a2_0 a3_0 a4_0 f00_0 f01_0 f02_0 f03_0 f04_0 f10_0 f11_0 f12_0 f13_0 f14_0 f20_0 f21_0 f22_0 f23_0 f24_0
 have a0_1 := HW1.out.cell 0 _ rfl
 have a1_1 := HW1.out.cell 1 _ rfl
 have a2_1 := HW1.out.cell 2 _ rfl
 have a3_1 := HW1.out.cell 3 _ rfl
 have a4_1 := HW1.out.cell 4 _ rfl
 obtain ⟨f00_1, f01_1, f02_1, f03_1, f04_1⟩ := Nod.past F0.out hg HW1.out.new
 obtain ⟨f10_1, f11_1, f12_1, f13_1, f14_1⟩ := Nod.past F1.out hg HW1.out.new
 obtain ⟨f20_1, f21_1, f22_1, f23_1, f24_1⟩ := Nod.past F2.out hg HW1.out.new
 go_wp2_with fail
 refine (behind_any w0 B b [116, 104, 101, 110] t1 hB0 H1.out _ _ HW1.out.sz HW1.out.new HW1.out.pr (by first | omega | (simp only [List.length_append, List.length_cons]; omega))).mono ?_
 rintro e w2 ⟨rfl, P1, P2, P3⟩
 have HW2 := hid (HW1.out.said hbH hB0 P1.out P2.out P3.out)
 clear P1 P2 P3
 clear a0_1 a1_1 a2_1 a3_1 a4_1 f00_1 f01_1 f02_1 f03_1 f04_1 f10_1 f11_1 f12_1 f13_1 f14_1 f20_1 f21_1 f22_1 f23_1 f24_1
 have a0_2 := HW2.out.cell 0 _ rfl
 have a1_2 := HW2.out.cell 1 _ rfl
 have a2_2 := HW2.out.cell 2 _ rfl
 have a3_2 := HW2.out.cell 3 _ rfl
 have a4_2 := HW2.out.cell 4 _ rfl
 obtain ⟨f00_2, f01_2, f02_2, f03_2, f04_2⟩ := Nod.past F0.out hg HW2.out.new
 obtain ⟨f10_2, f11_2, f12_2, f13_2, f14_2⟩ := Nod.past F1.out hg HW2.out.new
 obtain ⟨f20_2, f21_2, f22_2, f23_2, f24_2⟩ := Nod.past F2.out hg HW2.out.new
 go_wp2_with fail
 refine (behind_any w0 B b [101, 108, 115, 101] t2 hB0 H2.out _ _ HW2.out.sz HW2.out.new HW2.out.pr (by first | omega | (simp only [List.length_append, List.length_cons]; omega))).mono ?_
 rintro e w3 ⟨rfl, P1, P2, P3⟩
 have HW3 := hid (HW2.out.said hbH hB0 P1.out P2.out P3.out)
 clear P1 P2 P3
 clear a0_2 a1_2 a2_2 a3_2 a4_2 f00_2 f01_2 f02_2 f03_2 f04_2 f10_2 f11_2 f12_2 f13_2 f14_2 f20_2 f21_2 f22_2 f23_2 f24_2
 go_wp2_with fail
 go_end0
 exact HW3.out.fin (by simp)

theorem pk_pair (w0 : World) (B b : Nat) (p m : Int) (x : List UInt8) (g o c : Nat) (k0 p0 : Int) (n0 : ByteArray) (m0 : Int) (v0 : Value) (k1 p1 : Int) (n1 : ByteArray) (m1 : Int) (v1 : Value) (t0 : List (List UInt8)) (t1 : List (List UInt8)) (hB0 : w0.heap.size ≤ B) (hg : g < w0.heap.size) (_hc : 2 ≤ c) (E0 : Nod w0 g (o) k0 p0 n0 m0 v0) (E1 : Nod w0 g (o + 5) k1 p1 n1 m1 v1) (h0 : WP w0 B b (Value.agg #[.int .i64 k0, .int .i64 p0, .string n0, .int .i64 m0, v0]) 0 t0) (h1 : WP w0 B b (Value.agg #[.int .i64 k1, .int .i64 p1, .string n1, .int .i64 m1, v1]) 0 t1) :
  ∀ (w : World) (l : List (List UInt8)), B ≤ w.heap.size → Below w0.heap.size w0 w → PrAt B b l w → l.length + (([40] :: t0) ++ ([44] :: t1) ++ [[41]]).length ≤ 900000 →
  Calls Tryz.prog 48 #[.pointer (some ⟨b, 0, none⟩), .agg #[.int .i64 12, .int .i64 p, .string ⟨x.toArray⟩, .int .i64 m, .slice (some ⟨g, o, none⟩) 2 c]] w fun e w' => PPost w B b (l ++ (([40] :: t0) ++ ([44] :: t1) ++ [[41]])) e w' := by
 intro w l hB hn hp hl
 have hbH : w.heap.size ≠ b := by have := pr_lt hp; omega
 have H0 := hid h0
 have H1 := hid h1
 have F0 := hid E0
 have F1 := hid E1
 have hl2 := hl
 simp only [List.length_append, List.length_cons, List.length_nil] at hl2
 clear hl
 obtain ⟨W0, hW0⟩ : ∃ W, W = w.alloc (.cells #[.int .i64 12, .int .i64 p, .string ⟨x.toArray⟩, .int .i64 m, .slice (some ⟨g, o, none⟩) 2 c] 24) := ⟨_, rfl⟩
 have HW0 : Hid (Pw w0 w W0 B b w.heap.size #[.int .i64 12, .int .i64 p, .string ⟨x.toArray⟩, .int .i64 m, .slice (some ⟨g, o, none⟩) 2 c] l) := by rw [hW0]; exact Pw.start _ hp hB hn
 clear h0 h1 E0 E1 hp hn
 go_enter Tryz.func48, Tryz.ntmps48
 go_upto_region 1 with fail
 rw [← hW0]
 clear hW0
 have a0_0 := HW0.out.cell 0 _ rfl
 have a1_0 := HW0.out.cell 1 _ rfl
 have a2_0 := HW0.out.cell 2 _ rfl
 have a3_0 := HW0.out.cell 3 _ rfl
 have a4_0 := HW0.out.cell 4 _ rfl
 obtain ⟨f00_0, f01_0, f02_0, f03_0, f04_0⟩ := Nod.past F0.out hg HW0.out.new
 obtain ⟨f10_0, f11_0, f12_0, f13_0, f14_0⟩ := Nod.past F1.out hg HW0.out.new
 go_wp2_with fail
 refine (behind_any w0 B b [40] t0 hB0 H0.out _ _ HW0.out.sz HW0.out.new HW0.out.pr (by first | omega | (simp only [List.length_cons]; omega))).mono ?_
 rintro e w1 ⟨rfl, P1, P2, P3⟩
 have HW1 := hid (HW0.out.said hbH hB0 P1.out P2.out P3.out)
 clear P1 P2 P3
 clear a0_0 a1_0 a2_0 a3_0 a4_0 f00_0 f01_0 f02_0 f03_0 f04_0 f10_0 f11_0 f12_0 f13_0 f14_0
 have a0_1 := HW1.out.cell 0 _ rfl
 have a1_1 := HW1.out.cell 1 _ rfl
 have a2_1 := HW1.out.cell 2 _ rfl
 have a3_1 := HW1.out.cell 3 _ rfl
 have a4_1 := HW1.out.cell 4 _ rfl
 obtain ⟨f00_1, f01_1, f02_1, f03_1, f04_1⟩ := Nod.past F0.out hg HW1.out.new
 obtain ⟨f10_1, f11_1, f12_1, f13_1, f14_1⟩ := Nod.past F1.out hg HW1.out.new
 go_wp2_with fail
 refine (behind_any w0 B b [44] t1 hB0 H1.out _ _ HW1.out.sz HW1.out.new HW1.out.pr (by first | omega | (simp only [List.length_append, List.length_cons]; omega))).mono ?_
 rintro e w2 ⟨rfl, P1, P2, P3⟩
 have HW2 := hid (HW1.out.said hbH hB0 P1.out P2.out P3.out)
 clear P1 P2 P3
 clear a0_1 a1_1 a2_1 a3_1 a4_1 f00_1 f01_1 f02_1 f03_1 f04_1 f10_1 f11_1 f12_1 f13_1 f14_1
 have a0_2 := HW2.out.cell 0 _ rfl
 have a1_2 := HW2.out.cell 1 _ rfl
 have a2_2 := HW2.out.cell 2 _ rfl
 have a3_2 := HW2.out.cell 3 _ rfl
 have a4_2 := HW2.out.cell 4 _ rfl
 obtain ⟨f00_2, f01_2, f02_2, f03_2, f04_2⟩ := Nod.past F0.out hg HW2.out.new
 obtain ⟨f10_2, f11_2, f12_2, f13_2, f14_2⟩ := Nod.past F1.out hg HW2.out.new
 go_wp2_with fail
 refine (say1 HW2.out hbH hB0 ([41]) (by first | omega | (simp only [List.length_append, List.length_cons]; omega))).mono ?_
 rintro e w3 ⟨rfl, HW3⟩
 clear a0_2 a1_2 a2_2 a3_2 a4_2 f00_2 f01_2 f02_2 f03_2 f04_2 f10_2 f11_2 f12_2 f13_2 f14_2
 go_wp2_with fail
 go_end0
 exact HW3.out.fin (by simp)

theorem pk_return (w0 : World) (B b : Nat) (p m : Int) (x : List UInt8) (g o c : Nat) (k0 p0 : Int) (n0 : ByteArray) (m0 : Int) (v0 : Value) (t0 : List (List UInt8)) (hB0 : w0.heap.size ≤ B) (hg : g < w0.heap.size) (_hc : 1 ≤ c) (E0 : Nod w0 g (o) k0 p0 n0 m0 v0) (h0 : WP w0 B b (Value.agg #[.int .i64 k0, .int .i64 p0, .string n0, .int .i64 m0, v0]) 0 t0) :
  ∀ (w : World) (l : List (List UInt8)), B ≤ w.heap.size → Below w0.heap.size w0 w → PrAt B b l w → l.length + ([[114, 101, 116, 117, 114, 110], x] ++ ([61, 62] :: t0)).length ≤ 900000 →
  Calls Tryz.prog 48 #[.pointer (some ⟨b, 0, none⟩), .agg #[.int .i64 21, .int .i64 p, .string ⟨x.toArray⟩, .int .i64 m, .slice (some ⟨g, o, none⟩) 1 c]] w fun e w' => PPost w B b (l ++ ([[114, 101, 116, 117, 114, 110], x] ++ ([61, 62] :: t0))) e w' := by
 intro w l hB hn hp hl
 have hbH : w.heap.size ≠ b := by have := pr_lt hp; omega
 have H0 := hid h0
 have F0 := hid E0
 have hl2 := hl
 simp only [List.length_append, List.length_cons, List.length_nil] at hl2
 clear hl
 obtain ⟨W0, hW0⟩ : ∃ W, W = w.alloc (.cells #[.int .i64 21, .int .i64 p, .string ⟨x.toArray⟩, .int .i64 m, .slice (some ⟨g, o, none⟩) 1 c] 24) := ⟨_, rfl⟩
 have HW0 : Hid (Pw w0 w W0 B b w.heap.size #[.int .i64 21, .int .i64 p, .string ⟨x.toArray⟩, .int .i64 m, .slice (some ⟨g, o, none⟩) 1 c] l) := by rw [hW0]; exact Pw.start _ hp hB hn
 clear h0 E0 hp hn
 go_enter Tryz.func48, Tryz.ntmps48
 go_upto_region 1 with fail
 rw [← hW0]
 clear hW0
 have a0_0 := HW0.out.cell 0 _ rfl
 have a1_0 := HW0.out.cell 1 _ rfl
 have a2_0 := HW0.out.cell 2 _ rfl
 have a3_0 := HW0.out.cell 3 _ rfl
 have a4_0 := HW0.out.cell 4 _ rfl
 obtain ⟨f00_0, f01_0, f02_0, f03_0, f04_0⟩ := Nod.past F0.out hg HW0.out.new
 go_wp2_with fail
 refine (say2 HW0.out hbH hB0 ([114, 101, 116, 117, 114, 110]) (x) (by first | omega | (simp only [List.length_append, List.length_cons, List.length_nil]; omega))).mono ?_
 rintro e w1 ⟨rfl, HW1⟩
 clear a0_0 a1_0 a2_0 a3_0 a4_0 f00_0 f01_0 f02_0 f03_0 f04_0
 have a0_1 := HW1.out.cell 0 _ rfl
 have a1_1 := HW1.out.cell 1 _ rfl
 have a2_1 := HW1.out.cell 2 _ rfl
 have a3_1 := HW1.out.cell 3 _ rfl
 have a4_1 := HW1.out.cell 4 _ rfl
 obtain ⟨f00_1, f01_1, f02_1, f03_1, f04_1⟩ := Nod.past F0.out hg HW1.out.new
 go_wp2_with fail
 refine (behind_any w0 B b [61, 62] t0 hB0 H0.out _ _ HW1.out.sz HW1.out.new HW1.out.pr (by first | omega | (simp only [List.length_append, List.length_cons, List.length_nil]; omega))).mono ?_
 rintro e w2 ⟨rfl, P1, P2, P3⟩
 have HW2 := hid (HW1.out.said hbH hB0 P1.out P2.out P3.out)
 clear P1 P2 P3
 clear a0_1 a1_1 a2_1 a3_1 a4_1 f00_1 f01_1 f02_1 f03_1 f04_1
 go_wp2_with fail
 go_end0
 exact HW2.out.fin (by simp)

open Go.RowKit

theorem sides_seq (p m : Int) (x : List UInt8) (v : Value) (w : World) :
  Calls Tryz.prog 118 #[.agg #[.int .i64 10, .int .i64 p, .string ⟨x.toArray⟩, .int .i64 m, v]] w fun e w' => e = .returned (.tuple #[.int .i64 1, .int .i64 0]) ∧ Hid (Below w.heap.size w w') := by
 go_enter Tryz.func118, Tryz.ntmps118
 go_wp2_with fail
 go_ret2
 exact ⟨rfl, (Below.refl _ _).alloc (Nat.le_refl _) _⟩

theorem sides_yfn (p m : Int) (x : List UInt8) (v : Value) (w : World) :
  Calls Tryz.prog 118 #[.agg #[.int .i64 29, .int .i64 p, .string ⟨x.toArray⟩, .int .i64 m, v]] w fun e w' => e = .returned (.tuple #[.int .i64 1, .int .i64 0]) ∧ Hid (Below w.heap.size w w') := by
 go_enter Tryz.func118, Tryz.ntmps118
 go_wp2_with fail
 go_ret2
 exact ⟨rfl, (Below.refl _ _).alloc (Nat.le_refl _) _⟩

theorem sides_ypair (p m : Int) (x : List UInt8) (v : Value) (w : World) :
  Calls Tryz.prog 118 #[.agg #[.int .i64 28, .int .i64 p, .string ⟨x.toArray⟩, .int .i64 m, v]] w fun e w' => e = .returned (.tuple #[.int .i64 2, .int .i64 1]) ∧ Hid (Below w.heap.size w w') := by
 go_enter Tryz.func118, Tryz.ntmps118
 go_wp2_with fail
 go_ret2
 exact ⟨rfl, (Below.refl _ _).alloc (Nat.le_refl _) _⟩

theorem sides_cons (p m : Int) (x : List UInt8) (v : Value) (w : World) :
  Calls Tryz.prog 118 #[.agg #[.int .i64 16, .int .i64 p, .string ⟨x.toArray⟩, .int .i64 m, v]] w fun e w' => e = .returned (.tuple #[.int .i64 3, .int .i64 2]) ∧ Hid (Below w.heap.size w w') := by
 go_enter Tryz.func118, Tryz.ntmps118
 go_wp2_with fail
 go_ret2
 exact ⟨rfl, (Below.refl _ _).alloc (Nat.le_refl _) _⟩

theorem sides_plus (p m : Int) (x : List UInt8) (v : Value) (w : World) (h : x = [43]) :
  Calls Tryz.prog 118 #[.agg #[.int .i64 18, .int .i64 p, .string ⟨x.toArray⟩, .int .i64 m, v]] w fun e w' => e = .returned (.tuple #[.int .i64 3, .int .i64 4]) ∧ Hid (Below w.heap.size w w') := by
 subst h
 go_enter Tryz.func118, Tryz.ntmps118
 go_wp2_with fail
 go_ret2
 exact ⟨rfl, (Below.refl _ _).alloc (Nat.le_refl _) _⟩

theorem sides_minus (p m : Int) (x : List UInt8) (v : Value) (w : World) (h : x = [45]) :
  Calls Tryz.prog 118 #[.agg #[.int .i64 18, .int .i64 p, .string ⟨x.toArray⟩, .int .i64 m, v]] w fun e w' => e = .returned (.tuple #[.int .i64 3, .int .i64 4]) ∧ Hid (Below w.heap.size w w') := by
 subst h
 go_enter Tryz.func118, Tryz.ntmps118
 go_wp2_with fail
 go_ret2
 exact ⟨rfl, (Below.refl _ _).alloc (Nat.le_refl _) _⟩

theorem sides_star (p m : Int) (x : List UInt8) (v : Value) (w : World) (h : x = [42]) :
  Calls Tryz.prog 118 #[.agg #[.int .i64 18, .int .i64 p, .string ⟨x.toArray⟩, .int .i64 m, v]] w fun e w' => e = .returned (.tuple #[.int .i64 4, .int .i64 5]) ∧ Hid (Below w.heap.size w w') := by
 subst h
 go_enter Tryz.func118, Tryz.ntmps118
 go_wp2_with fail
 go_ret2
 exact ⟨rfl, (Below.refl _ _).alloc (Nat.le_refl _) _⟩

theorem sides_lt (p m : Int) (x : List UInt8) (v : Value) (w : World) (h : x = [60]) :
  Calls Tryz.prog 118 #[.agg #[.int .i64 18, .int .i64 p, .string ⟨x.toArray⟩, .int .i64 m, v]] w fun e w' => e = .returned (.tuple #[.int .i64 2, .int .i64 2]) ∧ Hid (Below w.heap.size w w') := by
 subst h
 go_enter Tryz.func118, Tryz.ntmps118
 go_wp2_with fail
 go_ret2
 exact ⟨rfl, (Below.refl _ _).alloc (Nat.le_refl _) _⟩

theorem sides_eq (p m : Int) (x : List UInt8) (v : Value) (w : World) (h : x = [61, 61]) :
  Calls Tryz.prog 118 #[.agg #[.int .i64 18, .int .i64 p, .string ⟨x.toArray⟩, .int .i64 m, v]] w fun e w' => e = .returned (.tuple #[.int .i64 2, .int .i64 2]) ∧ Hid (Below w.heap.size w w') := by
 subst h
 go_enter Tryz.func118, Tryz.ntmps118
 go_wp2_with fail
 go_ret2
 exact ⟨rfl, (Below.refl _ _).alloc (Nat.le_refl _) _⟩
end Go.Proofs.YtoajnlhegallpaaGreatDoor
