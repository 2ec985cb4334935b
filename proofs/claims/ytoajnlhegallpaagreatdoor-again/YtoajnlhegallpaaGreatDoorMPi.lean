/-
  The program's printer: do, fst, snd, lists of types.
  The program's printer: truth; cases.
  The program's printer: what is applied, and to what.
-/
import Derived.Test.YtoajnlhegallpaaGreatDoorMPc
set_option linter.unusedVariables false
set_option linter.unusedSimpArgs false
set_option maxRecDepth 100000
set_option maxHeartbeats 8000000
namespace Go.Proofs.YtoajnlhegallpaaGreatDoor
open Go.RowKit

theorem say_raw {W : World} {B b : Nat} {l : List (List UInt8)} (hp : PrAt B b l W) (hB : B ≤ W.heap.size) (toks : List (List UInt8)) (hl : l.length + toks.length ≤ 1000000) :
  Calls Tryz.prog 49 #[.pointer (some ⟨b, 0, none⟩), .slice (some ⟨W.heap.size, 0, none⟩) toks.length toks.length] (W.alloc (.cells (toks.map strV).toArray 9)) fun e w' => PPost W B b (l ++ toks) e w' := by
 have hb : Below W.heap.size W (W.alloc (.cells (toks.map strV).toArray 9)) := (Below.refl _ _).alloc (Nat.le_refl _) _
 refine (say_any _ B b l toks W.heap.size toks.length (pr_past hp hb) (Nat.le_trans hB hb.size) hl (fun j hj => ?_)).mono ?_
 ·rw [cell_of_row _ W.heap.size j _ 9 (0, 0) (heap_alloc_new W _)]
  simp [hj]
 ·rintro e w' ⟨rfl, h1, h2, h3⟩
  exact ⟨rfl, h1, (hb.mono hB).trans h2.out, (oth_past hb).trans h3.out⟩
theorem sayr1 {W : World} {B b : Nat} {l : List (List UInt8)} (hp : PrAt B b l W) (hB : B ≤ W.heap.size) (x : List UInt8) (hl : l.length ≤ 900000) :
  Calls Tryz.prog 49 #[.pointer (some ⟨b, 0, none⟩), .slice (some ⟨W.heap.size, 0, none⟩) 1 1] (W.alloc (.cells #[.string ⟨x.toArray⟩] 9)) fun e w' => PPost W B b (l ++ [x]) e w' := say_raw hp hB [x] (by simp; omega)
theorem sayr2 {W : World} {B b : Nat} {l : List (List UInt8)} (hp : PrAt B b l W) (hB : B ≤ W.heap.size) (x y : List UInt8) (hl : l.length ≤ 900000) :
  Calls Tryz.prog 49 #[.pointer (some ⟨b, 0, none⟩), .slice (some ⟨W.heap.size, 0, none⟩) 2 2] (W.alloc (.cells #[.string ⟨x.toArray⟩, .string ⟨y.toArray⟩] 9)) fun e w' => PPost W B b (l ++ [x, y]) e w' := say_raw hp hB [x, y] (by simp; omega)
theorem pa_do (w0 : World) (B b : Nat) (p m : Int) (x : List UInt8) (g o c : Nat) (k0 p0 : Int) (n0 : ByteArray) (m0 : Int) (va : Option Addr) (vl vc : Nat) (t0 : List (List UInt8)) (hB0 : w0.heap.size ≤ B) (hg : g < w0.heap.size) (_hc : 1 ≤ c) (E0 : Nod w0 g o k0 p0 n0 m0 (.slice va vl vc)) (h0 : WP w0 B b (Value.agg #[.int .i64 k0, .int .i64 p0, .string n0, .int .i64 m0, .slice va vl vc]) 6 t0) :
  ∀ (w : World) (l : List (List UInt8)), B ≤ w.heap.size → Below w0.heap.size w0 w → PrAt B b l w → l.length + ([[100, 111], x] ++ t0).length ≤ 900000 →
  Calls Tryz.prog 89 #[.pointer (some ⟨b, 0, none⟩), .agg #[.int .i64 19, .int .i64 p, .string ⟨x.toArray⟩, .int .i64 m, .slice (some ⟨g, o, none⟩) 1 c]] w fun e w' => PPost w B b (l ++ ([[100, 111], x] ++ t0)) e w' := by
 intro w l hB hn hp hl
 have hbH : w.heap.size ≠ b := by have := pr_lt hp; omega
 have H0 := hid h0
 have F0 := hid E0
 have hl2 := hl
 simp only [List.length_append, List.length_cons, List.length_nil] at hl2
 clear hl
 obtain ⟨W0, hW0⟩ : ∃ W, W = w.alloc (.cells #[.int .i64 19, .int .i64 p, .string ⟨x.toArray⟩, .int .i64 m, .slice (some ⟨g, o, none⟩) 1 c] 24) := ⟨_, rfl⟩
 have HW0 : Hid (Pw w0 w W0 B b w.heap.size #[.int .i64 19, .int .i64 p, .string ⟨x.toArray⟩, .int .i64 m, .slice (some ⟨g, o, none⟩) 1 c] l) := by rw [hW0]; exact Pw.start _ hp hB hn
 have hbH2 : W0.heap.size ≠ b := by have := pr_lt HW0.out.pr; omega
 clear h0 E0 hp hn
 go_enter Tryz.func89, Tryz.ntmps89
 go_upto_region 1 with fail
 rw [← hW0]
 clear hW0
 have a0 := HW0.out.cell 0 _ rfl
 have a4 := HW0.out.cell 4 _ rfl
 obtain ⟨f0, f1, f2, f3, f4⟩ := Nod.past F0.out hg HW0.out.new
 go_upto_region 2 with fail
 obtain ⟨W1, hW1⟩ : ∃ W, W = W0.alloc (.cells #[.int .i64 k0, .int .i64 p0, .string n0, .int .i64 m0, .slice va vl vc] 24) := ⟨_, rfl⟩
 rw [← hW1]
 have HW1 : Hid (Pw w0 w W1 B b w.heap.size #[.int .i64 19, .int .i64 p, .string ⟨x.toArray⟩, .int .i64 m, .slice (some ⟨g, o, none⟩) 1 c] l) := by rw [hW1]; exact HW0.out.past ((Below.refl _ _).alloc (Nat.le_refl _) _)
 have HV1 : Hid (Pw w0 W0 W1 B b W0.heap.size #[.int .i64 k0, .int .i64 p0, .string n0, .int .i64 m0, .slice va vl vc] l) := by rw [hW1]; exact Pw.start _ HW0.out.pr HW0.out.sz HW0.out.new
 clear hW1 a0 a4 f0 f1 f2 f3 f4
 have a0_1 := HW1.out.cell 0 _ rfl
 have a1_1 := HW1.out.cell 1 _ rfl
 have a2_1 := HW1.out.cell 2 _ rfl
 have a3_1 := HW1.out.cell 3 _ rfl
 have a4_1 := HW1.out.cell 4 _ rfl
 have d0_1 := HV1.out.cell 0 _ rfl
 have d1_1 := HV1.out.cell 1 _ rfl
 have d2_1 := HV1.out.cell 2 _ rfl
 have d3_1 := HV1.out.cell 3 _ rfl
 have d4_1 := HV1.out.cell 4 _ rfl
 go_wp2_with fail
 refine (sayr2 HW1.out.pr HW1.out.sz ([100, 111]) (x) (by first | omega | (simp only [List.length_append, List.length_cons, List.length_nil]; omega))).mono ?_
 rintro e w2 ⟨rfl, P1, P2, P3⟩
 have HW2 := hid (HW1.out.said hbH hB0 P1.out P2.out P3.out)
 have HV2 := hid (HV1.out.said hbH2 hB0 P1.out P2.out P3.out)
 clear P1 P2 P3 a0_1 a1_1 a2_1 a3_1 a4_1 d0_1 d1_1 d2_1 d3_1 d4_1
 have a0_2 := HW2.out.cell 0 _ rfl
 have a1_2 := HW2.out.cell 1 _ rfl
 have a2_2 := HW2.out.cell 2 _ rfl
 have a3_2 := HW2.out.cell 3 _ rfl
 have a4_2 := HW2.out.cell 4 _ rfl
 have d0_2 := HV2.out.cell 0 _ rfl
 have d1_2 := HV2.out.cell 1 _ rfl
 have d2_2 := HV2.out.cell 2 _ rfl
 have d3_2 := HV2.out.cell 3 _ rfl
 have d4_2 := HV2.out.cell 4 _ rfl
 go_wp2_with fail
 refine (H0.out _ _ HW2.out.sz HW2.out.new HW2.out.pr (by first | omega | (simp only [List.length_append, List.length_cons, List.length_nil]; omega))).mono ?_
 rintro e w3 ⟨rfl, P1, P2, P3⟩
 have HW3 := hid (HW2.out.said hbH hB0 P1.out P2.out P3.out)
 have HV3 := hid (HV2.out.said hbH2 hB0 P1.out P2.out P3.out)
 clear P1 P2 P3 a0_2 a1_2 a2_2 a3_2 a4_2 d0_2 d1_2 d2_2 d3_2 d4_2
 go_wp2_with fail
 go_end0
 exact HW3.out.fin (by simp)

theorem pa_fst (w0 : World) (B b : Nat) (p m : Int) (x : List UInt8) (g o c : Nat) (k0 p0 : Int) (n0 : ByteArray) (m0 : Int) (va : Option Addr) (vl vc : Nat) (t0 : List (List UInt8)) (hB0 : w0.heap.size ≤ B) (hg : g < w0.heap.size) (_hc : 1 ≤ c) (E0 : Nod w0 g o k0 p0 n0 m0 (.slice va vl vc)) (h0 : WP w0 B b (Value.agg #[.int .i64 k0, .int .i64 p0, .string n0, .int .i64 m0, .slice va vl vc]) 6 t0) :
  ∀ (w : World) (l : List (List UInt8)), B ≤ w.heap.size → Below w0.heap.size w0 w → PrAt B b l w → l.length + ([[102, 115, 116]] ++ t0).length ≤ 900000 →
  Calls Tryz.prog 89 #[.pointer (some ⟨b, 0, none⟩), .agg #[.int .i64 13, .int .i64 p, .string ⟨x.toArray⟩, .int .i64 m, .slice (some ⟨g, o, none⟩) 1 c]] w fun e w' => PPost w B b (l ++ ([[102, 115, 116]] ++ t0)) e w' := by
 intro w l hB hn hp hl
 have hbH : w.heap.size ≠ b := by have := pr_lt hp; omega
 have H0 := hid h0
 have F0 := hid E0
 have hl2 := hl
 simp only [List.length_append, List.length_cons, List.length_nil] at hl2
 clear hl
 obtain ⟨W0, hW0⟩ : ∃ W, W = w.alloc (.cells #[.int .i64 13, .int .i64 p, .string ⟨x.toArray⟩, .int .i64 m, .slice (some ⟨g, o, none⟩) 1 c] 24) := ⟨_, rfl⟩
 have HW0 : Hid (Pw w0 w W0 B b w.heap.size #[.int .i64 13, .int .i64 p, .string ⟨x.toArray⟩, .int .i64 m, .slice (some ⟨g, o, none⟩) 1 c] l) := by rw [hW0]; exact Pw.start _ hp hB hn
 have hbH2 : W0.heap.size ≠ b := by have := pr_lt HW0.out.pr; omega
 clear h0 E0 hp hn
 go_enter Tryz.func89, Tryz.ntmps89
 go_upto_region 1 with fail
 rw [← hW0]
 clear hW0
 have a0 := HW0.out.cell 0 _ rfl
 have a4 := HW0.out.cell 4 _ rfl
 obtain ⟨f0, f1, f2, f3, f4⟩ := Nod.past F0.out hg HW0.out.new
 go_upto_region 2 with fail
 obtain ⟨W1, hW1⟩ : ∃ W, W = W0.alloc (.cells #[.int .i64 k0, .int .i64 p0, .string n0, .int .i64 m0, .slice va vl vc] 24) := ⟨_, rfl⟩
 rw [← hW1]
 have HW1 : Hid (Pw w0 w W1 B b w.heap.size #[.int .i64 13, .int .i64 p, .string ⟨x.toArray⟩, .int .i64 m, .slice (some ⟨g, o, none⟩) 1 c] l) := by rw [hW1]; exact HW0.out.past ((Below.refl _ _).alloc (Nat.le_refl _) _)
 have HV1 : Hid (Pw w0 W0 W1 B b W0.heap.size #[.int .i64 k0, .int .i64 p0, .string n0, .int .i64 m0, .slice va vl vc] l) := by rw [hW1]; exact Pw.start _ HW0.out.pr HW0.out.sz HW0.out.new
 clear hW1 a0 a4 f0 f1 f2 f3 f4
 have a0_1 := HW1.out.cell 0 _ rfl
 have a1_1 := HW1.out.cell 1 _ rfl
 have a2_1 := HW1.out.cell 2 _ rfl
 have a3_1 := HW1.out.cell 3 _ rfl
 have a4_1 := HW1.out.cell 4 _ rfl
 have d0_1 := HV1.out.cell 0 _ rfl
 have d1_1 := HV1.out.cell 1 _ rfl
 have d2_1 := HV1.out.cell 2 _ rfl
 have d3_1 := HV1.out.cell 3 _ rfl
 have d4_1 := HV1.out.cell 4 _ rfl
 go_wp2_with fail
 refine (sayr1 HW1.out.pr HW1.out.sz ([102, 115, 116]) (by first | omega | (simp only [List.length_append, List.length_cons, List.length_nil]; omega))).mono ?_
 rintro e w2 ⟨rfl, P1, P2, P3⟩
 have HW2 := hid (HW1.out.said hbH hB0 P1.out P2.out P3.out)
 have HV2 := hid (HV1.out.said hbH2 hB0 P1.out P2.out P3.out)
 clear P1 P2 P3 a0_1 a1_1 a2_1 a3_1 a4_1 d0_1 d1_1 d2_1 d3_1 d4_1
 have a0_2 := HW2.out.cell 0 _ rfl
 have a1_2 := HW2.out.cell 1 _ rfl
 have a2_2 := HW2.out.cell 2 _ rfl
 have a3_2 := HW2.out.cell 3 _ rfl
 have a4_2 := HW2.out.cell 4 _ rfl
 have d0_2 := HV2.out.cell 0 _ rfl
 have d1_2 := HV2.out.cell 1 _ rfl
 have d2_2 := HV2.out.cell 2 _ rfl
 have d3_2 := HV2.out.cell 3 _ rfl
 have d4_2 := HV2.out.cell 4 _ rfl
 go_wp2_with fail
 refine (H0.out _ _ HW2.out.sz HW2.out.new HW2.out.pr (by first | omega | (simp only [List.length_append, List.length_cons, List.length_nil]; omega))).mono ?_
 rintro e w3 ⟨rfl, P1, P2, P3⟩
 have HW3 := hid (HW2.out.said hbH hB0 P1.out P2.out P3.out)
 have HV3 := hid (HV2.out.said hbH2 hB0 P1.out P2.out P3.out)
 clear P1 P2 P3 a0_2 a1_2 a2_2 a3_2 a4_2 d0_2 d1_2 d2_2 d3_2 d4_2
 go_wp2_with fail
 go_end0
 exact HW3.out.fin (by simp)

theorem pa_snd (w0 : World) (B b : Nat) (p m : Int) (x : List UInt8) (g o c : Nat) (k0 p0 : Int) (n0 : ByteArray) (m0 : Int) (va : Option Addr) (vl vc : Nat) (t0 : List (List UInt8)) (hB0 : w0.heap.size ≤ B) (hg : g < w0.heap.size) (_hc : 1 ≤ c) (E0 : Nod w0 g o k0 p0 n0 m0 (.slice va vl vc)) (h0 : WP w0 B b (Value.agg #[.int .i64 k0, .int .i64 p0, .string n0, .int .i64 m0, .slice va vl vc]) 6 t0) :
  ∀ (w : World) (l : List (List UInt8)), B ≤ w.heap.size → Below w0.heap.size w0 w → PrAt B b l w → l.length + ([[115, 110, 100]] ++ t0).length ≤ 900000 →
  Calls Tryz.prog 89 #[.pointer (some ⟨b, 0, none⟩), .agg #[.int .i64 14, .int .i64 p, .string ⟨x.toArray⟩, .int .i64 m, .slice (some ⟨g, o, none⟩) 1 c]] w fun e w' => PPost w B b (l ++ ([[115, 110, 100]] ++ t0)) e w' := by
 intro w l hB hn hp hl
 have hbH : w.heap.size ≠ b := by have := pr_lt hp; omega
 have H0 := hid h0
 have F0 := hid E0
 have hl2 := hl
 simp only [List.length_append, List.length_cons, List.length_nil] at hl2
 clear hl
 obtain ⟨W0, hW0⟩ : ∃ W, W = w.alloc (.cells #[.int .i64 14, .int .i64 p, .string ⟨x.toArray⟩, .int .i64 m, .slice (some ⟨g, o, none⟩) 1 c] 24) := ⟨_, rfl⟩
 have HW0 : Hid (Pw w0 w W0 B b w.heap.size #[.int .i64 14, .int .i64 p, .string ⟨x.toArray⟩, .int .i64 m, .slice (some ⟨g, o, none⟩) 1 c] l) := by rw [hW0]; exact Pw.start _ hp hB hn
 have hbH2 : W0.heap.size ≠ b := by have := pr_lt HW0.out.pr; omega
 clear h0 E0 hp hn
 go_enter Tryz.func89, Tryz.ntmps89
 go_upto_region 1 with fail
 rw [← hW0]
 clear hW0
 have a0 := HW0.out.cell 0 _ rfl
 have a4 := HW0.out.cell 4 _ rfl
 obtain ⟨f0, f1, f2, f3, f4⟩ := Nod.past F0.out hg HW0.out.new
 go_upto_region 2 with fail
 obtain ⟨W1, hW1⟩ : ∃ W, W = W0.alloc (.cells #[.int .i64 k0, .int .i64 p0, .string n0, .int .i64 m0, .slice va vl vc] 24) := ⟨_, rfl⟩
 rw [← hW1]
 have HW1 : Hid (Pw w0 w W1 B b w.heap.size #[.int .i64 14, .int .i64 p, .string ⟨x.toArray⟩, .int .i64 m, .slice (some ⟨g, o, none⟩) 1 c] l) := by rw [hW1]; exact HW0.out.past ((Below.refl _ _).alloc (Nat.le_refl _) _)
 have HV1 : Hid (Pw w0 W0 W1 B b W0.heap.size #[.int .i64 k0, .int .i64 p0, .string n0, .int .i64 m0, .slice va vl vc] l) := by rw [hW1]; exact Pw.start _ HW0.out.pr HW0.out.sz HW0.out.new
 clear hW1 a0 a4 f0 f1 f2 f3 f4
 have a0_1 := HW1.out.cell 0 _ rfl
 have a1_1 := HW1.out.cell 1 _ rfl
 have a2_1 := HW1.out.cell 2 _ rfl
 have a3_1 := HW1.out.cell 3 _ rfl
 have a4_1 := HW1.out.cell 4 _ rfl
 have d0_1 := HV1.out.cell 0 _ rfl
 have d1_1 := HV1.out.cell 1 _ rfl
 have d2_1 := HV1.out.cell 2 _ rfl
 have d3_1 := HV1.out.cell 3 _ rfl
 have d4_1 := HV1.out.cell 4 _ rfl
 go_wp2_with fail
 refine (sayr1 HW1.out.pr HW1.out.sz ([115, 110, 100]) (by first | omega | (simp only [List.length_append, List.length_cons, List.length_nil]; omega))).mono ?_
 rintro e w2 ⟨rfl, P1, P2, P3⟩
 have HW2 := hid (HW1.out.said hbH hB0 P1.out P2.out P3.out)
 have HV2 := hid (HV1.out.said hbH2 hB0 P1.out P2.out P3.out)
 clear P1 P2 P3 a0_1 a1_1 a2_1 a3_1 a4_1 d0_1 d1_1 d2_1 d3_1 d4_1
 have a0_2 := HW2.out.cell 0 _ rfl
 have a1_2 := HW2.out.cell 1 _ rfl
 have a2_2 := HW2.out.cell 2 _ rfl
 have a3_2 := HW2.out.cell 3 _ rfl
 have a4_2 := HW2.out.cell 4 _ rfl
 have d0_2 := HV2.out.cell 0 _ rfl
 have d1_2 := HV2.out.cell 1 _ rfl
 have d2_2 := HV2.out.cell 2 _ rfl
 have d3_2 := HV2.out.cell 3 _ rfl
 have d4_2 := HV2.out.cell 4 _ rfl
 go_wp2_with fail
 refine (H0.out _ _ HW2.out.sz HW2.out.new HW2.out.pr (by first | omega | (simp only [List.length_append, List.length_cons, List.length_nil]; omega))).mono ?_
 rintro e w3 ⟨rfl, P1, P2, P3⟩
 have HW3 := hid (HW2.out.said hbH hB0 P1.out P2.out P3.out)
 have HV3 := hid (HV2.out.said hbH2 hB0 P1.out P2.out P3.out)
 clear P1 P2 P3 a0_2 a1_2 a2_2 a3_2 a4_2 d0_2 d1_2 d2_2 d3_2 d4_2
 go_wp2_with fail
 go_end0
 exact HW3.out.fin (by simp)

theorem pa_ylist (w0 : World) (B b : Nat) (p m : Int) (x : List UInt8) (g o c : Nat) (k0 p0 : Int) (n0 : ByteArray) (m0 : Int) (va : Option Addr) (vl vc : Nat) (t0 : List (List UInt8)) (hB0 : w0.heap.size ≤ B) (hg : g < w0.heap.size) (_hc : 1 ≤ c) (E0 : Nod w0 g o k0 p0 n0 m0 (.slice va vl vc)) (h0 : WP w0 B b (Value.agg #[.int .i64 k0, .int .i64 p0, .string n0, .int .i64 m0, .slice va vl vc]) 2 t0) :
  ∀ (w : World) (l : List (List UInt8)), B ≤ w.heap.size → Below w0.heap.size w0 w → PrAt B b l w → l.length + (t0 ++ [[108, 105, 115, 116]]).length ≤ 900000 →
  Calls Tryz.prog 89 #[.pointer (some ⟨b, 0, none⟩), .agg #[.int .i64 27, .int .i64 p, .string ⟨x.toArray⟩, .int .i64 m, .slice (some ⟨g, o, none⟩) 1 c]] w fun e w' => PPost w B b (l ++ (t0 ++ [[108, 105, 115, 116]])) e w' := by
 intro w l hB hn hp hl
 have hbH : w.heap.size ≠ b := by have := pr_lt hp; omega
 have H0 := hid h0
 have F0 := hid E0
 have hl2 := hl
 simp only [List.length_append, List.length_cons, List.length_nil] at hl2
 clear hl
 obtain ⟨W0, hW0⟩ : ∃ W, W = w.alloc (.cells #[.int .i64 27, .int .i64 p, .string ⟨x.toArray⟩, .int .i64 m, .slice (some ⟨g, o, none⟩) 1 c] 24) := ⟨_, rfl⟩
 have HW0 : Hid (Pw w0 w W0 B b w.heap.size #[.int .i64 27, .int .i64 p, .string ⟨x.toArray⟩, .int .i64 m, .slice (some ⟨g, o, none⟩) 1 c] l) := by rw [hW0]; exact Pw.start _ hp hB hn
 have hbH2 : W0.heap.size ≠ b := by have := pr_lt HW0.out.pr; omega
 clear h0 E0 hp hn
 go_enter Tryz.func89, Tryz.ntmps89
 go_upto_region 1 with fail
 rw [← hW0]
 clear hW0
 have a0 := HW0.out.cell 0 _ rfl
 have a4 := HW0.out.cell 4 _ rfl
 obtain ⟨f0, f1, f2, f3, f4⟩ := Nod.past F0.out hg HW0.out.new
 go_upto_region 2 with fail
 obtain ⟨W1, hW1⟩ : ∃ W, W = W0.alloc (.cells #[.int .i64 k0, .int .i64 p0, .string n0, .int .i64 m0, .slice va vl vc] 24) := ⟨_, rfl⟩
 rw [← hW1]
 have HW1 : Hid (Pw w0 w W1 B b w.heap.size #[.int .i64 27, .int .i64 p, .string ⟨x.toArray⟩, .int .i64 m, .slice (some ⟨g, o, none⟩) 1 c] l) := by rw [hW1]; exact HW0.out.past ((Below.refl _ _).alloc (Nat.le_refl _) _)
 have HV1 : Hid (Pw w0 W0 W1 B b W0.heap.size #[.int .i64 k0, .int .i64 p0, .string n0, .int .i64 m0, .slice va vl vc] l) := by rw [hW1]; exact Pw.start _ HW0.out.pr HW0.out.sz HW0.out.new
 clear hW1 a0 a4 f0 f1 f2 f3 f4
 have a0_1 := HW1.out.cell 0 _ rfl
 have a1_1 := HW1.out.cell 1 _ rfl
 have a2_1 := HW1.out.cell 2 _ rfl
 have a3_1 := HW1.out.cell 3 _ rfl
 have a4_1 := HW1.out.cell 4 _ rfl
 have d0_1 := HV1.out.cell 0 _ rfl
 have d1_1 := HV1.out.cell 1 _ rfl
 have d2_1 := HV1.out.cell 2 _ rfl
 have d3_1 := HV1.out.cell 3 _ rfl
 have d4_1 := HV1.out.cell 4 _ rfl
 go_wp2_with fail
 refine (H0.out _ _ HW1.out.sz HW1.out.new HW1.out.pr (by first | omega | (simp only [List.length_append, List.length_cons, List.length_nil]; omega))).mono ?_
 rintro e w2 ⟨rfl, P1, P2, P3⟩
 have HW2 := hid (HW1.out.said hbH hB0 P1.out P2.out P3.out)
 have HV2 := hid (HV1.out.said hbH2 hB0 P1.out P2.out P3.out)
 clear P1 P2 P3 a0_1 a1_1 a2_1 a3_1 a4_1 d0_1 d1_1 d2_1 d3_1 d4_1
 have a0_2 := HW2.out.cell 0 _ rfl
 have a1_2 := HW2.out.cell 1 _ rfl
 have a2_2 := HW2.out.cell 2 _ rfl
 have a3_2 := HW2.out.cell 3 _ rfl
 have a4_2 := HW2.out.cell 4 _ rfl
 have d0_2 := HV2.out.cell 0 _ rfl
 have d1_2 := HV2.out.cell 1 _ rfl
 have d2_2 := HV2.out.cell 2 _ rfl
 have d3_2 := HV2.out.cell 3 _ rfl
 have d4_2 := HV2.out.cell 4 _ rfl
 go_wp2_with fail
 refine (sayr1 HW2.out.pr HW2.out.sz ([108, 105, 115, 116]) (by first | omega | (simp only [List.length_append]; omega))).mono ?_
 rintro e w3 ⟨rfl, P1, P2, P3⟩
 have HW3 := hid (HW2.out.said hbH hB0 P1.out P2.out P3.out)
 have HV3 := hid (HV2.out.said hbH2 hB0 P1.out P2.out P3.out)
 clear P1 P2 P3 a0_2 a1_2 a2_2 a3_2 a4_2 d0_2 d1_2 d2_2 d3_2 d4_2
 go_wp2_with fail
 go_end0
 exact HW3.out.fin (by simp)

open Go.RowKit

theorem say_at {w0 w W : World} {B b H : Nat} {cs : Array Value} {l : List (List UInt8)} (h : Pw w0 w W B b H cs l) (hH : H ≠ b) (h0 : w0.heap.size ≤ B) (toks : List (List UInt8)) (V : World) (hV : Below W.heap.size W V) (hrow : V.heap[W.heap.size]? = some (.cells (toks.map strV).toArray 9 (0, 0))) (hl : l.length + toks.length ≤ 1000000) :
  Calls Tryz.prog 49 #[.pointer (some ⟨b, 0, none⟩), .slice (some ⟨W.heap.size, 0, none⟩) toks.length toks.length] V fun e w' => e = .returned (.tuple #[]) ∧ Hid (Pw w0 w w' B b H cs (l ++ toks)) := by
 have hp := h.past hV
 refine (say_any _ B b l toks W.heap.size toks.length hp.pr hp.sz hl (fun j hj => ?_)).mono ?_
 ·rw [cell_of_row _ W.heap.size j _ 9 (0, 0) hrow]
  simp [hj]
 ·rintro e w' ⟨rfl, h1, h2, h3⟩
  exact ⟨rfl, hp.said hH h0 h1.out h2.out h3.out⟩
theorem truth_any (B b : Nat) (m : Int) : ∀ (w : World) (l : List (List UInt8)), B ≤ w.heap.size → PrAt B b l w → l.length + 1 ≤ 900000 →
  Calls Tryz.prog 122 #[.pointer (some ⟨b, 0, none⟩), .int .i64 m] w fun e w' => PPost w B b (l ++ [if m = 1 then [116, 114, 117, 101] else [102, 97, 108, 115, 101]]) e w' := by
 intro w l hB hp hl
 have HP := hid hp
 clear hp
 by_cases hm : m = 1
 ·subst hm
  rw [if_pos rfl]
  go_enter Tryz.func122, Tryz.ntmps122
  go_wp2_with fail
  refine (sayr1 HP.out hB [116, 114, 117, 101] (by omega)).mono ?_
  rintro e w1 ⟨rfl, P1, P2, P3⟩
  go_wp2_with fail
  go_end0
  exact ⟨rfl, P1, P2, P3⟩
 ·rw [if_neg hm]
  go_enter Tryz.func122, Tryz.ntmps122
  go_wp2_with fail
  refine (sayr1 HP.out hB [102, 97, 108, 115, 101] (by omega)).mono ?_
  rintro e w1 ⟨rfl, P1, P2, P3⟩
  go_wp2_with fail
  go_end0
  exact ⟨rfl, P1, P2, P3⟩
theorem pk_cases (w0 : World) (B b : Nat) (p m : Int) (x : List UInt8) (g o c : Nat) (k0 p0 : Int) (n0 : ByteArray) (m0 : Int) (v0 : Value) (k1 p1 : Int) (n1 : ByteArray) (m1 : Int) (v1 : Value) (k2 p2 : Int) (n2 : ByteArray) (m2 : Int) (v2 : Value) (k3 p3 : Int) (n3 : ByteArray) (m3 : Int) (v3 : Value) (k4 p4 : Int) (n4 : ByteArray) (m4 : Int) (v4 : Value) (y2 : List UInt8) (hy2 : n2 = ⟨y2.toArray⟩) (y3 : List UInt8) (hy3 : n3 = ⟨y3.toArray⟩) (t0 : List (List UInt8)) (t1 : List (List UInt8)) (t4 : List (List UInt8)) (hB0 : w0.heap.size ≤ B) (hg : g < w0.heap.size) (_hc : 5 ≤ c) (E0 : Nod w0 g (o) k0 p0 n0 m0 v0) (E1 : Nod w0 g (o + 5) k1 p1 n1 m1 v1) (E2 : Nod w0 g (o + 10) k2 p2 n2 m2 v2) (E3 : Nod w0 g (o + 15) k3 p3 n3 m3 v3) (E4 : Nod w0 g (o + 20) k4 p4 n4 m4 v4) (h0 : WP w0 B b (Value.agg #[.int .i64 k0, .int .i64 p0, .string n0, .int .i64 m0, v0]) 0 t0) (h1 : WP w0 B b (Value.agg #[.int .i64 k1, .int .i64 p1, .string n1, .int .i64 m1, v1]) 0 t1) (h4 : WP w0 B b (Value.agg #[.int .i64 k4, .int .i64 p4, .string n4, .int .i64 m4, v4]) 0 t4) :
  ∀ (w : World) (l : List (List UInt8)), B ≤ w.heap.size → Below w0.heap.size w0 w → PrAt B b l w → l.length + (([99, 97, 115, 101] :: t0) ++ [[111, 102], [91], [93]] ++ ([61, 62] :: t1) ++ [[124], y2, [58, 58], y3] ++ ([61, 62] :: t4) ++ [[101, 110, 100]]).length ≤ 900000 →
  Calls Tryz.prog 86 #[.pointer (some ⟨b, 0, none⟩), .agg #[.int .i64 17, .int .i64 p, .string ⟨x.toArray⟩, .int .i64 m, .slice (some ⟨g, o, none⟩) 5 c]] w fun e w' => PPost w B b (l ++ (([99, 97, 115, 101] :: t0) ++ [[111, 102], [91], [93]] ++ ([61, 62] :: t1) ++ [[124], y2, [58, 58], y3] ++ ([61, 62] :: t4) ++ [[101, 110, 100]])) e w' := by
 intro w l hB hn hp hl
 subst hy2
 subst hy3
 have hbH : w.heap.size ≠ b := by have := pr_lt hp; omega
 have H0 := hid h0
 have H1 := hid h1
 have H4 := hid h4
 have F0 := hid E0
 have F1 := hid E1
 have F2 := hid E2
 have F3 := hid E3
 have F4 := hid E4
 have hl2 := hl
 simp only [List.length_append, List.length_cons, List.length_nil] at hl2
 clear hl
 obtain ⟨W0, hW0⟩ : ∃ W, W = w.alloc (.cells #[.int .i64 17, .int .i64 p, .string ⟨x.toArray⟩, .int .i64 m, .slice (some ⟨g, o, none⟩) 5 c] 24) := ⟨_, rfl⟩
 have HW0 : Hid (Pw w0 w W0 B b w.heap.size #[.int .i64 17, .int .i64 p, .string ⟨x.toArray⟩, .int .i64 m, .slice (some ⟨g, o, none⟩) 5 c] l) := by rw [hW0]; exact Pw.start _ hp hB hn
 clear h0 h1 h4 E0 E1 E2 E3 E4 hp hn
 go_enter Tryz.func86, Tryz.ntmps86
 go_upto_region 1 with fail
 rw [← hW0]
 clear hW0
 have a0_0 := HW0.out.cell 0 _ rfl
 have a1_0 := HW0.out.cell 1 _ rfl
 have a2_0 := HW0.out.cell 2 _ rfl
 have a3_0 := HW0.out.cell 3 _ rfl
 have a4_0 := HW0.out.cell 4 _ rfl
 obtain ⟨f00_0, f01_0, f02_0, f03_0, f04_0⟩ := Nod.past F0.out hg HW0.out.new
 obtain ⟨f10_0, f11_0, f12_0, f13_0, f14_0⟩ := Nod.past F1.out hg HW0.out.new
 obtain ⟨f20_0, f21_0, f22_0, f23_0, f24_0⟩ := Nod.past F2.out hg HW0.out.new
 obtain ⟨f30_0, f31_0, f32_0, f33_0, f34_0⟩ := Nod.past F3.out hg HW0.out.new
 obtain ⟨f40_0, f41_0, f42_0, f43_0, f44_0⟩ := Nod.past F4.out hg HW0.out.new
 go_wp2_with fail
 refine (behind_any w0 B b [99, 97, 115, 101] t0 hB0 H0.out _ _ HW0.out.sz HW0.out.new HW0.out.pr (by first | omega | (simp only [List.length_cons]; omega))).mono ?_
 rintro e w1 ⟨rfl, P1, P2, P3⟩
 have HW1 := hid (HW0.out.said hbH hB0 P1.out P2.out P3.out)
 clear P1 P2 P3
 clear a0_0 a1_0 a2_0 a3_0 a4_0 f00_0 f01_0 f02_0 f03_0 f04_0 f10_0 f11_0 f12_0 f13_0 f14_0 f20_0 f21_0 f22_0 f23_0 f24_0 f30_0 f31_0 f32_0 f33_0 f34_0 f40_0 f41_0 f42_0 f43_0 f44_0
 have a0_1 := HW1.out.cell 0 _ rfl
 have a1_1 := HW1.out.cell 1 _ rfl
 have a2_1 := HW1.out.cell 2 _ rfl
 have a3_1 := HW1.out.cell 3 _ rfl
 have a4_1 := HW1.out.cell 4 _ rfl
 obtain ⟨f00_1, f01_1, f02_1, f03_1, f04_1⟩ := Nod.past F0.out hg HW1.out.new
 obtain ⟨f10_1, f11_1, f12_1, f13_1, f14_1⟩ := Nod.past F1.out hg HW1.out.new
 obtain ⟨f20_1, f21_1, f22_1, f23_1, f24_1⟩ := Nod.past F2.out hg HW1.out.new
 obtain ⟨f30_1, f31_1, f32_1, f33_1, f34_1⟩ := Nod.past F3.out hg HW1.out.new
 obtain ⟨f40_1, f41_1, f42_1, f43_1, f44_1⟩ := Nod.past F4.out hg HW1.out.new
 go_wp2_with fail
 refine (say3 HW1.out hbH hB0 ([111, 102]) ([91]) ([93]) (by first | omega | (simp only [List.length_append, List.length_cons]; omega))).mono ?_
 rintro e w2 ⟨rfl, HW2⟩
 clear a0_1 a1_1 a2_1 a3_1 a4_1 f00_1 f01_1 f02_1 f03_1 f04_1 f10_1 f11_1 f12_1 f13_1 f14_1 f20_1 f21_1 f22_1 f23_1 f24_1 f30_1 f31_1 f32_1 f33_1 f34_1 f40_1 f41_1 f42_1 f43_1 f44_1
 have a0_2 := HW2.out.cell 0 _ rfl
 have a1_2 := HW2.out.cell 1 _ rfl
 have a2_2 := HW2.out.cell 2 _ rfl
 have a3_2 := HW2.out.cell 3 _ rfl
 have a4_2 := HW2.out.cell 4 _ rfl
 obtain ⟨f00_2, f01_2, f02_2, f03_2, f04_2⟩ := Nod.past F0.out hg HW2.out.new
 obtain ⟨f10_2, f11_2, f12_2, f13_2, f14_2⟩ := Nod.past F1.out hg HW2.out.new
 obtain ⟨f20_2, f21_2, f22_2, f23_2, f24_2⟩ := Nod.past F2.out hg HW2.out.new
 obtain ⟨f30_2, f31_2, f32_2, f33_2, f34_2⟩ := Nod.past F3.out hg HW2.out.new
 obtain ⟨f40_2, f41_2, f42_2, f43_2, f44_2⟩ := Nod.past F4.out hg HW2.out.new
 go_wp2_with fail
 refine (behind_any w0 B b [61, 62] t1 hB0 H1.out _ _ HW2.out.sz HW2.out.new HW2.out.pr (by first | omega | (simp only [List.length_append, List.length_cons, List.length_nil]; omega))).mono ?_
 rintro e w3 ⟨rfl, P1, P2, P3⟩
 have HW3 := hid (HW2.out.said hbH hB0 P1.out P2.out P3.out)
 clear P1 P2 P3
 clear a0_2 a1_2 a2_2 a3_2 a4_2 f00_2 f01_2 f02_2 f03_2 f04_2 f10_2 f11_2 f12_2 f13_2 f14_2 f20_2 f21_2 f22_2 f23_2 f24_2 f30_2 f31_2 f32_2 f33_2 f34_2 f40_2 f41_2 f42_2 f43_2 f44_2
 have a0_3 := HW3.out.cell 0 _ rfl
 have a1_3 := HW3.out.cell 1 _ rfl
 have a2_3 := HW3.out.cell 2 _ rfl
 have a3_3 := HW3.out.cell 3 _ rfl
 have a4_3 := HW3.out.cell 4 _ rfl
 obtain ⟨f00_3, f01_3, f02_3, f03_3, f04_3⟩ := Nod.past F0.out hg HW3.out.new
 obtain ⟨f10_3, f11_3, f12_3, f13_3, f14_3⟩ := Nod.past F1.out hg HW3.out.new
 obtain ⟨f20_3, f21_3, f22_3, f23_3, f24_3⟩ := Nod.past F2.out hg HW3.out.new
 obtain ⟨f30_3, f31_3, f32_3, f33_3, f34_3⟩ := Nod.past F3.out hg HW3.out.new
 obtain ⟨f40_3, f41_3, f42_3, f43_3, f44_3⟩ := Nod.past F4.out hg HW3.out.new
 go_wp2_with fail
 go_region_held3 (fun w' => w'.cell? ⟨w.heap.size, 4, none⟩ = some (.slice (some ⟨g, o, none⟩) 5 c) ∧ w'.cell? ⟨g, o + 10 + 2, none⟩ = some (.string ⟨y2.toArray⟩) ∧ w'.cell? ⟨g, o + 15 + 2, none⟩ = some (.string ⟨y3.toArray⟩)) (go_keep)
  ((go_at_call 49; refine (say_at HW3.out hbH hB0 [[124], y2, [58, 58], y3] _ (by repeat (with_reducible (first | exact Below.refl _ _ | apply Below.drew | refine Below.alloc ?_ (Nat.le_refl _) _))) (by exact heap_alloc_new _ _) (by simp; omega)).mono ?_; rintro e w4 ⟨rfl, HW4⟩; have z4 := HW4.out.cell 4 _ rfl; obtain ⟨_, _, z2, _, _⟩ := Nod.past F2.out hg HW4.out.new; obtain ⟨_, _, z3, _, _⟩ := Nod.past F3.out hg HW4.out.new))
 clear a0_3 a1_3 a2_3 a3_3 a4_3 f00_3 f01_3 f02_3 f03_3 f04_3 f10_3 f11_3 f12_3 f13_3 f14_3 f20_3 f21_3 f22_3 f23_3 f24_3 f30_3 f31_3 f32_3 f33_3 f34_3 f40_3 f41_3 f42_3 f43_3 f44_3
 have a0_4 := HW4.out.cell 0 _ rfl
 have a1_4 := HW4.out.cell 1 _ rfl
 have a2_4 := HW4.out.cell 2 _ rfl
 have a3_4 := HW4.out.cell 3 _ rfl
 have a4_4 := HW4.out.cell 4 _ rfl
 obtain ⟨f00_4, f01_4, f02_4, f03_4, f04_4⟩ := Nod.past F0.out hg HW4.out.new
 obtain ⟨f10_4, f11_4, f12_4, f13_4, f14_4⟩ := Nod.past F1.out hg HW4.out.new
 obtain ⟨f20_4, f21_4, f22_4, f23_4, f24_4⟩ := Nod.past F2.out hg HW4.out.new
 obtain ⟨f30_4, f31_4, f32_4, f33_4, f34_4⟩ := Nod.past F3.out hg HW4.out.new
 obtain ⟨f40_4, f41_4, f42_4, f43_4, f44_4⟩ := Nod.past F4.out hg HW4.out.new
 go_wp2_with fail
 refine (behind_any w0 B b [61, 62] t4 hB0 H4.out _ _ HW4.out.sz HW4.out.new HW4.out.pr (by first | omega | (simp only [List.length_append, List.length_cons, List.length_nil]; omega))).mono ?_
 rintro e w5 ⟨rfl, P1, P2, P3⟩
 have HW5 := hid (HW4.out.said hbH hB0 P1.out P2.out P3.out)
 clear P1 P2 P3
 clear a0_4 a1_4 a2_4 a3_4 a4_4 f00_4 f01_4 f02_4 f03_4 f04_4 f10_4 f11_4 f12_4 f13_4 f14_4 f20_4 f21_4 f22_4 f23_4 f24_4 f30_4 f31_4 f32_4 f33_4 f34_4 f40_4 f41_4 f42_4 f43_4 f44_4
 have a0_5 := HW5.out.cell 0 _ rfl
 have a1_5 := HW5.out.cell 1 _ rfl
 have a2_5 := HW5.out.cell 2 _ rfl
 have a3_5 := HW5.out.cell 3 _ rfl
 have a4_5 := HW5.out.cell 4 _ rfl
 obtain ⟨f00_5, f01_5, f02_5, f03_5, f04_5⟩ := Nod.past F0.out hg HW5.out.new
 obtain ⟨f10_5, f11_5, f12_5, f13_5, f14_5⟩ := Nod.past F1.out hg HW5.out.new
 obtain ⟨f20_5, f21_5, f22_5, f23_5, f24_5⟩ := Nod.past F2.out hg HW5.out.new
 obtain ⟨f30_5, f31_5, f32_5, f33_5, f34_5⟩ := Nod.past F3.out hg HW5.out.new
 obtain ⟨f40_5, f41_5, f42_5, f43_5, f44_5⟩ := Nod.past F4.out hg HW5.out.new
 go_wp2_with fail
 refine (say1 HW5.out hbH hB0 ([101, 110, 100]) (by first | omega | (simp only [List.length_append, List.length_cons, List.length_nil]; omega))).mono ?_
 rintro e w6 ⟨rfl, HW6⟩
 clear a0_5 a1_5 a2_5 a3_5 a4_5 f00_5 f01_5 f02_5 f03_5 f04_5 f10_5 f11_5 f12_5 f13_5 f14_5 f20_5 f21_5 f22_5 f23_5 f24_5 f30_5 f31_5 f32_5 f33_5 f34_5 f40_5 f41_5 f42_5 f43_5 f44_5
 go_wp2_with fail
 go_end0
 exact HW6.out.fin (by simp)

open Go.RowKit

def IsBox (W : World) (h : Nat) : Prop := ∃ cs, W.heap[h]? = some (.cells cs 24 (0, 0))
theorem IsBox.set {W : World} {h : Nat} (hb : IsBox W h) (i : Nat) (v : Value) : IsBox (W.setCell ⟨h, i, none⟩ v) h := by
 obtain ⟨cs, h1⟩ := hb
 have hlt := lt_of_obj h1
 refine ⟨cs.setIfInBounds i v, ?_⟩
 have h2 : W.heap[h] = .cells cs 24 (0, 0) := by
  rw [Array.getElem?_eq_getElem hlt] at h1
  exact Option.some.inj h1
 simp [World.setCell, Array.getElem?_modify, h1]
theorem Pw.store {w0 w W : World} {B b H : Nat} {cs : Array Value} {l : List (List UInt8)} (h : Pw w0 w W B b H cs l) (h0 : w0.heap.size ≤ B) (h2 : Nat) (hbox : IsBox W h2) (hB : B ≤ h2) (hw : w.heap.size ≤ h2) (hH : H ≠ h2) (hb : h2 ≠ b) (i : Nat) (v : Value) : Pw w0 w (W.setCell ⟨h2, i, none⟩ v) B b H cs l := by
 have hs : Below B W (W.setCell ⟨h2, i, none⟩ v) := (Below.refl B W).setCell (p := ⟨h2, i, none⟩) hB v
 have keep : ∀ k, k ≠ h2 → (W.setCell ⟨h2, i, none⟩ v).heap[k]? = W.heap[k]? := fun k hk => Below.heap_setCell _ _ _ _ hk
 obtain ⟨cs2, hc2⟩ := hbox
 refine ⟨?_, h.bel.trans hs, ?_, (keep H hH).trans h.box, h.new.trans (hs.mono h0), Nat.le_trans h.sz hs.size⟩
 ·obtain ⟨q1, v1, q2, ⟨q3, q4⟩, q5⟩ := h.pr
  refine ⟨q1, v1, (keep b (fun e => hb e.symm)).trans q2, ⟨q3, ?_⟩, q5⟩
  rcases q4 with q4 | ⟨g, cap, cur, r1, r2, r3, r4⟩
  ·exact .inl q4
  ·refine .inr ⟨g, cap, cur, r1, r2, (keep g ?_).trans r3, r4⟩
   rintro rfl
   rw [hc2] at r3
   simp at r3
 ·intro k o hk hkb ho
  have hlt := lt_of_obj hk
  rw [keep k (by omega)]
  exact h.oth k o hk hkb ho

def FP (w0 : World) (B b : Nat) (v : Value) (ts : List (List UInt8)) : Prop := ∀ (w : World) (l : List (List UInt8)), B ≤ w.heap.size → Below w0.heap.size w0 w → PrAt B b l w → l.length + ts.length ≤ 900000 →
 Calls Tryz.prog 120 #[.pointer (some ⟨b, 0, none⟩), v] w fun e w' => PPost w B b (l ++ ts) e w'
theorem function_any (w0 : World) (B b : Nat) (k p m : Int) (n : ByteArray) (u : Value) (t1 t2 : List (List UInt8)) (hB0 : w0.heap.size ≤ B) (h1 : BP w0 B b (.agg #[.int .i64 k, .int .i64 p, .string n, .int .i64 m, u]) t1) (h2 : WP w0 B b (.agg #[.int .i64 k, .int .i64 p, .string n, .int .i64 m, u]) 6 t2) :
  FP w0 B b (.agg #[.int .i64 k, .int .i64 p, .string n, .int .i64 m, u]) (if k = 8 then t1 else t2) := by
 intro w l hB hn hp hl
 have hbH : w.heap.size ≠ b := by have := pr_lt hp; omega
 have H1 := hid h1
 have H2 := hid h2
 have HW0 := hid (Pw.start (w0 := w0) (w := w) #[.int .i64 k, .int .i64 p, .string n, .int .i64 m, u] hp hB hn)
 clear h1 h2 hp hn
 by_cases hk : k = 8
 ·subst hk
  rw [if_pos rfl] at hl ⊢
  go_enter Tryz.func120, Tryz.ntmps120
  go_wp2_with fail
  refine (H1.out _ l HW0.out.sz HW0.out.new HW0.out.pr hl).mono ?_
  rintro e w1 ⟨rfl, P1, P2, P3⟩
  have HW1 := hid (HW0.out.said hbH hB0 P1.out P2.out P3.out)
  go_wp2_with fail
  go_end0
  exact HW1.out.fin rfl
 ·rw [if_neg hk] at hl ⊢
  go_enter Tryz.func120, Tryz.ntmps120
  go_wp2_with fail
  refine (H2.out _ l HW0.out.sz HW0.out.new HW0.out.pr hl).mono ?_
  rintro e w1 ⟨rfl, P1, P2, P3⟩
  have HW1 := hid (HW0.out.said hbH hB0 P1.out P2.out P3.out)
  go_wp2_with fail
  go_end0
  exact HW1.out.fin rfl

theorem pa_app (w0 : World) (B b : Nat) (p m : Int) (x : List UInt8) (g o c : Nat) (k0 p0 : Int) (n0 : ByteArray) (m0 : Int) (va : Option Addr) (vl vc : Nat) (k1 p1 : Int) (n1 : ByteArray) (m1 : Int) (ua : Option Addr) (ul uc : Nat) (t0 t1 : List (List UInt8)) (hB0 : w0.heap.size ≤ B) (hg : g < w0.heap.size) (_hc : 2 ≤ c)
  (E0 : Nod w0 g o k0 p0 n0 m0 (.slice va vl vc)) (E1 : Nod w0 g (o + 5) k1 p1 n1 m1 (.slice ua ul uc)) (h0 : FP w0 B b (Value.agg #[.int .i64 k0, .int .i64 p0, .string n0, .int .i64 m0, .slice va vl vc]) t0) (h1 : WP w0 B b (Value.agg #[.int .i64 k1, .int .i64 p1, .string n1, .int .i64 m1, .slice ua ul uc]) 6 t1) :
  ∀ (w : World) (l : List (List UInt8)), B ≤ w.heap.size → Below w0.heap.size w0 w → PrAt B b l w → l.length + (t0 ++ t1).length ≤ 900000 →
  Calls Tryz.prog 89 #[.pointer (some ⟨b, 0, none⟩), .agg #[.int .i64 8, .int .i64 p, .string ⟨x.toArray⟩, .int .i64 m, .slice (some ⟨g, o, none⟩) 2 c]] w fun e w' => PPost w B b (l ++ (t0 ++ t1)) e w' := by
 intro w l hB hn hp hl
 have hbH : w.heap.size ≠ b := by have := pr_lt hp; omega
 have H0 := hid h0
 have H1 := hid h1
 have F0 := hid E0
 have F1 := hid E1
 have hl2 := hl
 simp only [List.length_append] at hl2
 obtain ⟨W0, hW0⟩ : ∃ W, W = w.alloc (.cells #[.int .i64 8, .int .i64 p, .string ⟨x.toArray⟩, .int .i64 m, .slice (some ⟨g, o, none⟩) 2 c] 24) := ⟨_, rfl⟩
 have HW0 : Hid (Pw w0 w W0 B b w.heap.size #[.int .i64 8, .int .i64 p, .string ⟨x.toArray⟩, .int .i64 m, .slice (some ⟨g, o, none⟩) 2 c] l) := by rw [hW0]; exact Pw.start _ hp hB hn
 have hbH2 : W0.heap.size ≠ b := by have := pr_lt HW0.out.pr; omega
 have hsz0 : w.heap.size < W0.heap.size := by rw [hW0]; simp
 clear h0 h1 E0 E1 hp hn hl
 go_enter Tryz.func89, Tryz.ntmps89
 go_upto_region 1 with fail
 rw [← hW0]
 clear hW0
 have a0 := HW0.out.cell 0 _ rfl
 have a4 := HW0.out.cell 4 _ rfl
 obtain ⟨f0, f1, f2, f3, f4⟩ := Nod.past F0.out hg HW0.out.new
 go_upto_region 2 with fail
 obtain ⟨W1, hW1⟩ : ∃ W, W = W0.alloc (.cells #[.int .i64 k0, .int .i64 p0, .string n0, .int .i64 m0, .slice va vl vc] 24) := ⟨_, rfl⟩
 rw [← hW1]
 have HW1 : Hid (Pw w0 w W1 B b w.heap.size #[.int .i64 8, .int .i64 p, .string ⟨x.toArray⟩, .int .i64 m, .slice (some ⟨g, o, none⟩) 2 c] l) := by rw [hW1]; exact HW0.out.past ((Below.refl _ _).alloc (Nat.le_refl _) _)
 have HV1 : Hid (Pw w0 W0 W1 B b W0.heap.size #[.int .i64 k0, .int .i64 p0, .string n0, .int .i64 m0, .slice va vl vc] l) := by rw [hW1]; exact Pw.start _ HW0.out.pr HW0.out.sz HW0.out.new
 have hBW := HW0.out.sz
 clear hW1 a0 a4 f0 f1 f2 f3 f4
 have a0 := HW1.out.cell 0 _ rfl
 have d0 := HV1.out.cell 0 _ rfl
 have d1 := HV1.out.cell 1 _ rfl
 have d2 := HV1.out.cell 2 _ rfl
 have d3 := HV1.out.cell 3 _ rfl
 have d4 := HV1.out.cell 4 _ rfl
 go_wp2_with fail
 refine (H0.out _ l HW1.out.sz HW1.out.new HW1.out.pr (by omega)).mono ?_
 rintro e w2 ⟨rfl, P1, P2, P3⟩
 have HW2 := hid (HW1.out.said hbH hB0 P1.out P2.out P3.out)
 have HV2 := hid (HV1.out.said hbH2 hB0 P1.out P2.out P3.out)
 clear P1 P2 P3 a0 d0 d1 d2 d3 d4
 have a4 := HW2.out.cell 4 _ rfl
 have d0 := HV2.out.cell 0 _ rfl
 have d1 := HV2.out.cell 1 _ rfl
 have d2 := HV2.out.cell 2 _ rfl
 have d3 := HV2.out.cell 3 _ rfl
 have d4 := HV2.out.cell 4 _ rfl
 have zf : ∀ i, w2.frozen? ⟨W0.heap.size, i, none⟩ = false := fun i => by simp [World.frozen?, HV2.out.box]
 have z0 := zf 0
 have z1 := zf 1
 have z2 := zf 2
 have z3 := zf 3
 have z4 := zf 4
 clear zf
 obtain ⟨f0, f1, f2, f3, f4⟩ := Nod.past F1.out hg HW2.out.new
 have hgn : ¬ g = W0.heap.size := by have := HW0.out.new.size; omega
 have hHn : ¬ w.heap.size = W0.heap.size := by omega
 go_wp2_with fail
 have hHne : w.heap.size ≠ W0.heap.size := hHn
 have hle := Nat.le_of_lt hsz0
 have B0 : IsBox w2 W0.heap.size := ⟨_, HV2.out.box⟩
 have B1 := B0.set 0 (.int .i64 k1)
 have B2 := B1.set 1 (.int .i64 p1)
 have B3 := B2.set 2 (.string n1)
 have B4 := B3.set 3 (.int .i64 m1)
 have HX := hid (((((HW2.out.store hB0 W0.heap.size B0 hBW hle hHne hbH2 0 (.int .i64 k1)).store hB0 W0.heap.size B1 hBW hle hHne hbH2 1 (.int .i64 p1)).store hB0 W0.heap.size B2 hBW hle hHne hbH2 2 (.string n1)).store hB0 W0.heap.size B3 hBW hle hHne hbH2 3 (.int .i64 m1)).store hB0 W0.heap.size B4 hBW hle hHne hbH2 4 (.slice ua ul uc))
 refine (H1.out _ _ HX.out.sz HX.out.new HX.out.pr (by rw [List.length_append]; omega)).mono ?_
 rintro e w3 ⟨rfl, P1, P2, P3⟩
 have HW3 := hid (HX.out.said hbH hB0 P1.out P2.out P3.out)
 go_wp2_with fail
 go_end0
 exact HW3.out.fin (by simp)
end Go.Proofs.YtoajnlhegallpaaGreatDoor
