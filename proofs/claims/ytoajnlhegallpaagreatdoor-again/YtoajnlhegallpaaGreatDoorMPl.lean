/-
  The program's printer: def and let up to what their name stands for.
-/
import Derived.Test.YtoajnlhegallpaaGreatDoorMPi
set_option linter.unusedVariables false
set_option linter.unusedSimpArgs false
set_option maxRecDepth 100000
set_option maxHeartbeats 8000000
namespace Go.Proofs.YtoajnlhegallpaaGreatDoor
open Go.RowKit

theorem par_no (p m : Int) (x : ByteArray) (v : Value) (w : World) (hm : ¬ m = 1) :
  Calls Tryz.prog 117 #[.agg #[.int .i64 9, .int .i64 p, .string x, .int .i64 m, v]] w fun e w' => e = .returned (.bool false) ∧ Hid (Below w.heap.size w w') := by
 go_enter Tryz.func117, Tryz.ntmps117
 go_wp2_with fail
 go_ret
 exact ⟨ret_bool (by simp_all), (Below.refl _ _).alloc (Nat.le_refl _) _⟩

theorem par_rec (p : Int) (x : ByteArray) (v : Value) (w : World) :
  Calls Tryz.prog 117 #[.agg #[.int .i64 9, .int .i64 p, .string x, .int .i64 1, v]] w fun e w' => e = .returned (.bool true) ∧ Hid (Below w.heap.size w w') := by
 go_enter Tryz.func117, Tryz.ntmps117
 go_wp2_with fail
 go_ret
 exact ⟨ret_bool (by simp_all), (Below.refl _ _).alloc (Nat.le_refl _) _⟩

theorem par_def (p m : Int) (x : ByteArray) (v : Value) (w : World) :
  Calls Tryz.prog 117 #[.agg #[.int .i64 2, .int .i64 p, .string x, .int .i64 m, v]] w fun e w' => e = .returned (.bool true) ∧ Hid (Below w.heap.size w w') := by
 go_enter Tryz.func117, Tryz.ntmps117
 go_wp2_with fail
 go_ret
 exact ⟨ret_bool (by simp_all), (Below.refl _ _).alloc (Nat.le_refl _) _⟩
theorem pb_let (w0 : World) (B b : Nat) (p m : Int) (x wd : List UInt8) (g o c : Nat) (k0 p0 : Int) (n0 : ByteArray) (m0 : Int) (va : Option Addr) (vl vc : Nat) (t0 : List (List UInt8)) (hB0 : w0.heap.size ≤ B) (hg : g < w0.heap.size) (_hc : 2 ≤ c) (E0 : Nod w0 g o k0 p0 n0 m0 (.slice va vl vc)) (h0 : WP w0 B b (Value.agg #[.int .i64 k0, .int .i64 p0, .string n0, .int .i64 m0, .slice va vl vc]) 0 t0) (hm : ¬ m = 1) :
  ∀ (w : World) (l : List (List UInt8)), B ≤ w.heap.size → Below w0.heap.size w0 w → PrAt B b l w → l.length + ([wd] ++ [x] ++ ([61] :: t0)).length ≤ 900000 →
  Calls Tryz.prog 84 #[.pointer (some ⟨b, 0, none⟩), .string ⟨wd.toArray⟩, .agg #[.int .i64 9, .int .i64 p, .string ⟨x.toArray⟩, .int .i64 m, .slice (some ⟨g, o, none⟩) 2 c]] w fun e w' => PPost w B b (l ++ ([wd] ++ [x] ++ ([61] :: t0))) e w' := by
 intro w l hB hn hp hl
 have hbH : w.heap.size ≠ b := by have := pr_lt hp; omega
 have H0 := hid h0
 have F0 := hid E0
 have hl2 := hl
 simp only [List.length_append, List.length_cons, List.length_nil] at hl2
 obtain ⟨W0, hW0⟩ : ∃ W, W = w.alloc (.cells #[.int .i64 9, .int .i64 p, .string ⟨x.toArray⟩, .int .i64 m, .slice (some ⟨g, o, none⟩) 2 c] 24) := ⟨_, rfl⟩
 have HW0 : Hid (Pw w0 w W0 B b w.heap.size #[.int .i64 9, .int .i64 p, .string ⟨x.toArray⟩, .int .i64 m, .slice (some ⟨g, o, none⟩) 2 c] l) := by rw [hW0]; exact Pw.start _ hp hB hn
 have hsz0 : w.heap.size < W0.heap.size := by rw [hW0]; simp
 clear h0 E0 hp hn hl
 go_enter Tryz.func84, Tryz.ntmps84
 go_upto_region 1 with fail
 rw [← hW0]
 clear hW0
 have a0_0 := HW0.out.cell 0 _ rfl
 have a1_0 := HW0.out.cell 1 _ rfl
 have a2_0 := HW0.out.cell 2 _ rfl
 have a3_0 := HW0.out.cell 3 _ rfl
 have a4_0 := HW0.out.cell 4 _ rfl
 go_wp2_with fail
 refine (say1 HW0.out hbH hB0 (wd) (by first | omega | (simp only [List.length_append, List.length_cons, List.length_nil]; omega))).mono ?_
 rintro e w1 ⟨rfl, HW1⟩
 clear a0_0 a1_0 a2_0 a3_0 a4_0
 have a0_1 := HW1.out.cell 0 _ rfl
 have a1_1 := HW1.out.cell 1 _ rfl
 have a2_1 := HW1.out.cell 2 _ rfl
 have a3_1 := HW1.out.cell 3 _ rfl
 have a4_1 := HW1.out.cell 4 _ rfl
 go_wp2_with fail
 refine (say1 HW1.out hbH hB0 (x) (by first | omega | (simp only [List.length_append, List.length_cons, List.length_nil]; omega))).mono ?_
 rintro e w2 ⟨rfl, HW2⟩
 clear a0_1 a1_1 a2_1 a3_1 a4_1
 have a0_2 := HW2.out.cell 0 _ rfl
 have a1_2 := HW2.out.cell 1 _ rfl
 have a2_2 := HW2.out.cell 2 _ rfl
 have a3_2 := HW2.out.cell 3 _ rfl
 have a4_2 := HW2.out.cell 4 _ rfl
 obtain ⟨f0, f1, f2, f3, f4⟩ := Nod.past F0.out hg HW2.out.new
 go_upto_region 6 with fail
 obtain ⟨V, hV⟩ : ∃ W, W = w2.alloc (.cells #[.int .i64 k0, .int .i64 p0, .string n0, .int .i64 m0, .slice va vl vc] 24) := ⟨_, rfl⟩
 rw [← hV]
 have hszw : w.heap.size < w2.heap.size := lt_of_obj HW2.out.box
 have hbH2 : w2.heap.size ≠ b := by have := pr_lt HW2.out.pr; omega
 have hBw := HW2.out.sz
 have HW3 : Hid (Pw w0 w V B b w.heap.size #[.int .i64 9, .int .i64 p, .string ⟨x.toArray⟩, .int .i64 m, .slice (some ⟨g, o, none⟩) 2 c] ((l ++ [wd]) ++ [x])) := by rw [hV]; exact HW2.out.past ((Below.refl _ _).alloc (Nat.le_refl _) _)
 have HV3 : Hid (Pw w0 w2 V B b w2.heap.size #[.int .i64 k0, .int .i64 p0, .string n0, .int .i64 m0, .slice va vl vc] ((l ++ [wd]) ++ [x])) := by rw [hV]; exact Pw.start _ HW2.out.pr HW2.out.sz HW2.out.new
 clear hV f0 f1 f2 f3 f4
 clear a0_2 a1_2 a2_2 a3_2 a4_2
 have a0_3 := HW3.out.cell 0 _ rfl
 have a1_3 := HW3.out.cell 1 _ rfl
 have a2_3 := HW3.out.cell 2 _ rfl
 have a3_3 := HW3.out.cell 3 _ rfl
 have a4_3 := HW3.out.cell 4 _ rfl
 have d0_3 := HV3.out.cell 0 _ rfl
 have d1_3 := HV3.out.cell 1 _ rfl
 have d2_3 := HV3.out.cell 2 _ rfl
 have d3_3 := HV3.out.cell 3 _ rfl
 have d4_3 := HV3.out.cell 4 _ rfl
 go_wp2_with fail
 refine (par_no p m _ _ _ hm).mono ?_
 rintro e w4 ⟨rfl, HQ⟩
 have HW4 := hid (HW3.out.past HQ.out)
 have HV4 := hid (HV3.out.past HQ.out)
 clear a0_3 a1_3 a2_3 a3_3 a4_3
 clear d0_3 d1_3 d2_3 d3_3 d4_3
 have a0_4 := HW4.out.cell 0 _ rfl
 have a1_4 := HW4.out.cell 1 _ rfl
 have a2_4 := HW4.out.cell 2 _ rfl
 have a3_4 := HW4.out.cell 3 _ rfl
 have a4_4 := HW4.out.cell 4 _ rfl
 have d0_4 := HV4.out.cell 0 _ rfl
 have d1_4 := HV4.out.cell 1 _ rfl
 have d2_4 := HV4.out.cell 2 _ rfl
 have d3_4 := HV4.out.cell 3 _ rfl
 have d4_4 := HV4.out.cell 4 _ rfl
 go_wp2_with fail
 refine (behind_any w0 B b [61] t0 hB0 H0.out _ _ HW4.out.sz HW4.out.new HW4.out.pr (by first | omega | (simp only [List.length_append, List.length_cons, List.length_nil]; omega))).mono ?_
 rintro e wz ⟨rfl, P1, P2, P3⟩
 have HZ := hid (HW4.out.said hbH hB0 P1.out P2.out P3.out)
 go_wp2_with fail
 go_end0
 exact HZ.out.fin (by simp)

theorem pb_rec (w0 : World) (B b : Nat) (p : Int) (x wd : List UInt8) (g o c : Nat) (k0 p0 : Int) (y0 : List UInt8) (m0 : Int) (g1 o1 c1 : Nat) (k1 p1 : Int) (n1 : ByteArray) (m1 : Int) (ua : Option Addr) (ul uc : Nat) (t0 : List (List UInt8)) (hB0 : w0.heap.size ≤ B) (hg : g < w0.heap.size) (_hc : 2 ≤ c) (hg1 : g1 < w0.heap.size) (_hc1 : 1 ≤ c1) (E0 : Nod w0 g o k0 p0 ⟨y0.toArray⟩ m0 (.slice (some ⟨g1, o1, none⟩) 1 c1)) (E1 : Nod w0 g1 o1 k1 p1 n1 m1 (.slice ua ul uc)) (h0 : WP w0 B b (Value.agg #[.int .i64 k1, .int .i64 p1, .string n1, .int .i64 m1, .slice ua ul uc]) 0 t0) :
  ∀ (w : World) (l : List (List UInt8)), B ≤ w.heap.size → Below w0.heap.size w0 w → PrAt B b l w → l.length + ([wd] ++ [[114, 101, 99]] ++ [x] ++ [y0] ++ ([61] :: t0)).length ≤ 900000 →
  Calls Tryz.prog 84 #[.pointer (some ⟨b, 0, none⟩), .string ⟨wd.toArray⟩, .agg #[.int .i64 9, .int .i64 p, .string ⟨x.toArray⟩, .int .i64 1, .slice (some ⟨g, o, none⟩) 2 c]] w fun e w' => PPost w B b (l ++ ([wd] ++ [[114, 101, 99]] ++ [x] ++ [y0] ++ ([61] :: t0))) e w' := by
 intro w l hB hn hp hl
 have hbH : w.heap.size ≠ b := by have := pr_lt hp; omega
 have H0 := hid h0
 have F0 := hid E0
 have F1 := hid E1
 have hl2 := hl
 simp only [List.length_append, List.length_cons, List.length_nil] at hl2
 obtain ⟨W0, hW0⟩ : ∃ W, W = w.alloc (.cells #[.int .i64 9, .int .i64 p, .string ⟨x.toArray⟩, .int .i64 1, .slice (some ⟨g, o, none⟩) 2 c] 24) := ⟨_, rfl⟩
 have HW0 : Hid (Pw w0 w W0 B b w.heap.size #[.int .i64 9, .int .i64 p, .string ⟨x.toArray⟩, .int .i64 1, .slice (some ⟨g, o, none⟩) 2 c] l) := by rw [hW0]; exact Pw.start _ hp hB hn
 have hsz0 : w.heap.size < W0.heap.size := by rw [hW0]; simp
 clear h0 E0 E1 hp hn hl
 go_enter Tryz.func84, Tryz.ntmps84
 go_upto_region 1 with fail
 rw [← hW0]
 clear hW0
 have a0_0 := HW0.out.cell 0 _ rfl
 have a1_0 := HW0.out.cell 1 _ rfl
 have a2_0 := HW0.out.cell 2 _ rfl
 have a3_0 := HW0.out.cell 3 _ rfl
 have a4_0 := HW0.out.cell 4 _ rfl
 go_wp2_with fail
 refine (say1 HW0.out hbH hB0 (wd) (by first | omega | (simp only [List.length_append, List.length_cons, List.length_nil]; omega))).mono ?_
 rintro e w1 ⟨rfl, HW1⟩
 clear a0_0 a1_0 a2_0 a3_0 a4_0
 have a0_1 := HW1.out.cell 0 _ rfl
 have a1_1 := HW1.out.cell 1 _ rfl
 have a2_1 := HW1.out.cell 2 _ rfl
 have a3_1 := HW1.out.cell 3 _ rfl
 have a4_1 := HW1.out.cell 4 _ rfl
 go_wp2_with fail
 refine (say1 HW1.out hbH hB0 ([114, 101, 99]) (by first | omega | (simp only [List.length_append, List.length_cons, List.length_nil]; omega))).mono ?_
 rintro e w2 ⟨rfl, HW2⟩
 clear a0_1 a1_1 a2_1 a3_1 a4_1
 have a0_2 := HW2.out.cell 0 _ rfl
 have a1_2 := HW2.out.cell 1 _ rfl
 have a2_2 := HW2.out.cell 2 _ rfl
 have a3_2 := HW2.out.cell 3 _ rfl
 have a4_2 := HW2.out.cell 4 _ rfl
 go_wp2_with fail
 refine (say1 HW2.out hbH hB0 (x) (by first | omega | (simp only [List.length_append, List.length_cons, List.length_nil]; omega))).mono ?_
 rintro e w3 ⟨rfl, HW3⟩
 clear a0_2 a1_2 a2_2 a3_2 a4_2
 have a0_3 := HW3.out.cell 0 _ rfl
 have a1_3 := HW3.out.cell 1 _ rfl
 have a2_3 := HW3.out.cell 2 _ rfl
 have a3_3 := HW3.out.cell 3 _ rfl
 have a4_3 := HW3.out.cell 4 _ rfl
 obtain ⟨f0, f1, f2, f3, f4⟩ := Nod.past F0.out hg HW3.out.new
 go_upto_region 6 with fail
 obtain ⟨V, hV⟩ : ∃ W, W = w3.alloc (.cells #[.int .i64 k0, .int .i64 p0, .string ⟨y0.toArray⟩, .int .i64 m0, .slice (some ⟨g1, o1, none⟩) 1 c1] 24) := ⟨_, rfl⟩
 rw [← hV]
 have hszw : w.heap.size < w3.heap.size := lt_of_obj HW3.out.box
 have hbH2 : w3.heap.size ≠ b := by have := pr_lt HW3.out.pr; omega
 have hBw := HW3.out.sz
 have HW4 : Hid (Pw w0 w V B b w.heap.size #[.int .i64 9, .int .i64 p, .string ⟨x.toArray⟩, .int .i64 1, .slice (some ⟨g, o, none⟩) 2 c] (((l ++ [wd]) ++ [[114, 101, 99]]) ++ [x])) := by rw [hV]; exact HW3.out.past ((Below.refl _ _).alloc (Nat.le_refl _) _)
 have HV4 : Hid (Pw w0 w3 V B b w3.heap.size #[.int .i64 k0, .int .i64 p0, .string ⟨y0.toArray⟩, .int .i64 m0, .slice (some ⟨g1, o1, none⟩) 1 c1] (((l ++ [wd]) ++ [[114, 101, 99]]) ++ [x])) := by rw [hV]; exact Pw.start _ HW3.out.pr HW3.out.sz HW3.out.new
 clear hV f0 f1 f2 f3 f4
 clear a0_3 a1_3 a2_3 a3_3 a4_3
 have a0_4 := HW4.out.cell 0 _ rfl
 have a1_4 := HW4.out.cell 1 _ rfl
 have a2_4 := HW4.out.cell 2 _ rfl
 have a3_4 := HW4.out.cell 3 _ rfl
 have a4_4 := HW4.out.cell 4 _ rfl
 have d0_4 := HV4.out.cell 0 _ rfl
 have d1_4 := HV4.out.cell 1 _ rfl
 have d2_4 := HV4.out.cell 2 _ rfl
 have d3_4 := HV4.out.cell 3 _ rfl
 have d4_4 := HV4.out.cell 4 _ rfl
 go_wp2_with fail
 refine (par_rec p _ _ _).mono ?_
 rintro e w5 ⟨rfl, HQ⟩
 have HW5 := hid (HW4.out.past HQ.out)
 have HV5 := hid (HV4.out.past HQ.out)
 clear a0_4 a1_4 a2_4 a3_4 a4_4
 clear d0_4 d1_4 d2_4 d3_4 d4_4
 have a0_5 := HW5.out.cell 0 _ rfl
 have a1_5 := HW5.out.cell 1 _ rfl
 have a2_5 := HW5.out.cell 2 _ rfl
 have a3_5 := HW5.out.cell 3 _ rfl
 have a4_5 := HW5.out.cell 4 _ rfl
 have d0_5 := HV5.out.cell 0 _ rfl
 have d1_5 := HV5.out.cell 1 _ rfl
 have d2_5 := HV5.out.cell 2 _ rfl
 have d3_5 := HV5.out.cell 3 _ rfl
 have d4_5 := HV5.out.cell 4 _ rfl
 go_wp2_with fail
 refine (sayr1 HW5.out.pr HW5.out.sz y0 (by first | omega | (simp only [List.length_append, List.length_cons, List.length_nil]; omega))).mono ?_
 rintro e w6 ⟨rfl, P1, P2, P3⟩
 have HW6 := hid (HW5.out.said hbH hB0 P1.out P2.out P3.out)
 have HV6 := hid (HV5.out.said hbH2 hB0 P1.out P2.out P3.out)
 clear P1 P2 P3
 clear a0_5 a1_5 a2_5 a3_5 a4_5
 clear d0_5 d1_5 d2_5 d3_5 d4_5
 have d0_6 := HV6.out.cell 0 _ rfl
 have d1_6 := HV6.out.cell 1 _ rfl
 have d2_6 := HV6.out.cell 2 _ rfl
 have d3_6 := HV6.out.cell 3 _ rfl
 have d4_6 := HV6.out.cell 4 _ rfl
 have zf : ∀ i, w6.frozen? ⟨w3.heap.size, i, none⟩ = false := fun i => by simp [World.frozen?, HV6.out.box]
 have z0 := zf 0
 have z1 := zf 1
 have z2 := zf 2
 have z3 := zf 3
 have z4 := zf 4
 clear zf
 obtain ⟨f0, f1, f2, f3, f4⟩ := Nod.past F1.out hg1 HW6.out.new
 have hgn : ¬ g1 = w3.heap.size := by have := HW3.out.new.size; omega
 go_wp2_with fail
 have hHne : w.heap.size ≠ w3.heap.size := by omega
 have hle := Nat.le_of_lt hszw
 have B0 : IsBox w6 w3.heap.size := ⟨_, HV6.out.box⟩
 have B1 := B0.set 0 (.int .i64 k1)
 have B2 := B1.set 1 (.int .i64 p1)
 have B3 := B2.set 2 (.string n1)
 have B4 := B3.set 3 (.int .i64 m1)
 have HX := hid (((((HW6.out.store hB0 (w3.heap.size) B0 hBw hle hHne hbH2 0 (.int .i64 k1)).store hB0 (w3.heap.size) B1 hBw hle hHne hbH2 1 (.int .i64 p1)).store hB0 (w3.heap.size) B2 hBw hle hHne hbH2 2 (.string n1)).store hB0 (w3.heap.size) B3 hBw hle hHne hbH2 3 (.int .i64 m1)).store hB0 (w3.heap.size) B4 hBw hle hHne hbH2 4 (.slice ua ul uc))
 refine (behind_any w0 B b [61] t0 hB0 H0.out _ _ HX.out.sz HX.out.new HX.out.pr (by first | omega | (simp only [List.length_append, List.length_cons, List.length_nil]; omega))).mono ?_
 rintro e wz ⟨rfl, P1, P2, P3⟩
 have HZ := hid (HX.out.said hbH hB0 P1.out P2.out P3.out)
 go_wp2_with fail
 go_end0
 exact HZ.out.fin (by simp)

theorem pb_def (w0 : World) (B b : Nat) (p m : Int) (x wd : List UInt8) (g o c : Nat) (k0 p0 : Int) (y0 : List UInt8) (m0 : Int) (g1 o1 c1 : Nat) (k1 p1 : Int) (n1 : ByteArray) (m1 : Int) (ua : Option Addr) (ul uc : Nat) (t0 : List (List UInt8)) (hB0 : w0.heap.size ≤ B) (hg : g < w0.heap.size) (_hc : 1 ≤ c) (hg1 : g1 < w0.heap.size) (_hc1 : 1 ≤ c1) (E0 : Nod w0 g o k0 p0 ⟨y0.toArray⟩ m0 (.slice (some ⟨g1, o1, none⟩) 1 c1)) (E1 : Nod w0 g1 o1 k1 p1 n1 m1 (.slice ua ul uc)) (h0 : WP w0 B b (Value.agg #[.int .i64 k1, .int .i64 p1, .string n1, .int .i64 m1, .slice ua ul uc]) 0 t0) (hm : ¬ m = 1) :
  ∀ (w : World) (l : List (List UInt8)), B ≤ w.heap.size → Below w0.heap.size w0 w → PrAt B b l w → l.length + ([wd] ++ [x] ++ [y0] ++ ([61] :: t0)).length ≤ 900000 →
  Calls Tryz.prog 84 #[.pointer (some ⟨b, 0, none⟩), .string ⟨wd.toArray⟩, .agg #[.int .i64 2, .int .i64 p, .string ⟨x.toArray⟩, .int .i64 m, .slice (some ⟨g, o, none⟩) 1 c]] w fun e w' => PPost w B b (l ++ ([wd] ++ [x] ++ [y0] ++ ([61] :: t0))) e w' := by
 intro w l hB hn hp hl
 have hbH : w.heap.size ≠ b := by have := pr_lt hp; omega
 have H0 := hid h0
 have F0 := hid E0
 have F1 := hid E1
 have hl2 := hl
 simp only [List.length_append, List.length_cons, List.length_nil] at hl2
 obtain ⟨W0, hW0⟩ : ∃ W, W = w.alloc (.cells #[.int .i64 2, .int .i64 p, .string ⟨x.toArray⟩, .int .i64 m, .slice (some ⟨g, o, none⟩) 1 c] 24) := ⟨_, rfl⟩
 have HW0 : Hid (Pw w0 w W0 B b w.heap.size #[.int .i64 2, .int .i64 p, .string ⟨x.toArray⟩, .int .i64 m, .slice (some ⟨g, o, none⟩) 1 c] l) := by rw [hW0]; exact Pw.start _ hp hB hn
 have hsz0 : w.heap.size < W0.heap.size := by rw [hW0]; simp
 clear h0 E0 E1 hp hn hl
 go_enter Tryz.func84, Tryz.ntmps84
 go_upto_region 1 with fail
 rw [← hW0]
 clear hW0
 have a0_0 := HW0.out.cell 0 _ rfl
 have a1_0 := HW0.out.cell 1 _ rfl
 have a2_0 := HW0.out.cell 2 _ rfl
 have a3_0 := HW0.out.cell 3 _ rfl
 have a4_0 := HW0.out.cell 4 _ rfl
 go_wp2_with fail
 refine (say1 HW0.out hbH hB0 (wd) (by first | omega | (simp only [List.length_append, List.length_cons, List.length_nil]; omega))).mono ?_
 rintro e w1 ⟨rfl, HW1⟩
 clear a0_0 a1_0 a2_0 a3_0 a4_0
 have a0_1 := HW1.out.cell 0 _ rfl
 have a1_1 := HW1.out.cell 1 _ rfl
 have a2_1 := HW1.out.cell 2 _ rfl
 have a3_1 := HW1.out.cell 3 _ rfl
 have a4_1 := HW1.out.cell 4 _ rfl
 go_wp2_with fail
 refine (say1 HW1.out hbH hB0 (x) (by first | omega | (simp only [List.length_append, List.length_cons, List.length_nil]; omega))).mono ?_
 rintro e w2 ⟨rfl, HW2⟩
 clear a0_1 a1_1 a2_1 a3_1 a4_1
 have a0_2 := HW2.out.cell 0 _ rfl
 have a1_2 := HW2.out.cell 1 _ rfl
 have a2_2 := HW2.out.cell 2 _ rfl
 have a3_2 := HW2.out.cell 3 _ rfl
 have a4_2 := HW2.out.cell 4 _ rfl
 obtain ⟨f0, f1, f2, f3, f4⟩ := Nod.past F0.out hg HW2.out.new
 go_upto_region 6 with fail
 obtain ⟨V, hV⟩ : ∃ W, W = w2.alloc (.cells #[.int .i64 k0, .int .i64 p0, .string ⟨y0.toArray⟩, .int .i64 m0, .slice (some ⟨g1, o1, none⟩) 1 c1] 24) := ⟨_, rfl⟩
 rw [← hV]
 have hszw : w.heap.size < w2.heap.size := lt_of_obj HW2.out.box
 have hbH2 : w2.heap.size ≠ b := by have := pr_lt HW2.out.pr; omega
 have hBw := HW2.out.sz
 have HW3 : Hid (Pw w0 w V B b w.heap.size #[.int .i64 2, .int .i64 p, .string ⟨x.toArray⟩, .int .i64 m, .slice (some ⟨g, o, none⟩) 1 c] ((l ++ [wd]) ++ [x])) := by rw [hV]; exact HW2.out.past ((Below.refl _ _).alloc (Nat.le_refl _) _)
 have HV3 : Hid (Pw w0 w2 V B b w2.heap.size #[.int .i64 k0, .int .i64 p0, .string ⟨y0.toArray⟩, .int .i64 m0, .slice (some ⟨g1, o1, none⟩) 1 c1] ((l ++ [wd]) ++ [x])) := by rw [hV]; exact Pw.start _ HW2.out.pr HW2.out.sz HW2.out.new
 clear hV f0 f1 f2 f3 f4
 clear a0_2 a1_2 a2_2 a3_2 a4_2
 have a0_3 := HW3.out.cell 0 _ rfl
 have a1_3 := HW3.out.cell 1 _ rfl
 have a2_3 := HW3.out.cell 2 _ rfl
 have a3_3 := HW3.out.cell 3 _ rfl
 have a4_3 := HW3.out.cell 4 _ rfl
 have d0_3 := HV3.out.cell 0 _ rfl
 have d1_3 := HV3.out.cell 1 _ rfl
 have d2_3 := HV3.out.cell 2 _ rfl
 have d3_3 := HV3.out.cell 3 _ rfl
 have d4_3 := HV3.out.cell 4 _ rfl
 go_wp2_with fail
 refine (par_def p m _ _ _).mono ?_
 rintro e w4 ⟨rfl, HQ⟩
 have HW4 := hid (HW3.out.past HQ.out)
 have HV4 := hid (HV3.out.past HQ.out)
 clear a0_3 a1_3 a2_3 a3_3 a4_3
 clear d0_3 d1_3 d2_3 d3_3 d4_3
 have a0_4 := HW4.out.cell 0 _ rfl
 have a1_4 := HW4.out.cell 1 _ rfl
 have a2_4 := HW4.out.cell 2 _ rfl
 have a3_4 := HW4.out.cell 3 _ rfl
 have a4_4 := HW4.out.cell 4 _ rfl
 have d0_4 := HV4.out.cell 0 _ rfl
 have d1_4 := HV4.out.cell 1 _ rfl
 have d2_4 := HV4.out.cell 2 _ rfl
 have d3_4 := HV4.out.cell 3 _ rfl
 have d4_4 := HV4.out.cell 4 _ rfl
 go_wp2_with fail
 refine (sayr1 HW4.out.pr HW4.out.sz y0 (by first | omega | (simp only [List.length_append, List.length_cons, List.length_nil]; omega))).mono ?_
 rintro e w5 ⟨rfl, P1, P2, P3⟩
 have HW5 := hid (HW4.out.said hbH hB0 P1.out P2.out P3.out)
 have HV5 := hid (HV4.out.said hbH2 hB0 P1.out P2.out P3.out)
 clear P1 P2 P3
 clear a0_4 a1_4 a2_4 a3_4 a4_4
 clear d0_4 d1_4 d2_4 d3_4 d4_4
 have d0_5 := HV5.out.cell 0 _ rfl
 have d1_5 := HV5.out.cell 1 _ rfl
 have d2_5 := HV5.out.cell 2 _ rfl
 have d3_5 := HV5.out.cell 3 _ rfl
 have d4_5 := HV5.out.cell 4 _ rfl
 have zf : ∀ i, w5.frozen? ⟨w2.heap.size, i, none⟩ = false := fun i => by simp [World.frozen?, HV5.out.box]
 have z0 := zf 0
 have z1 := zf 1
 have z2 := zf 2
 have z3 := zf 3
 have z4 := zf 4
 clear zf
 obtain ⟨f0, f1, f2, f3, f4⟩ := Nod.past F1.out hg1 HW5.out.new
 have hgn : ¬ g1 = w2.heap.size := by have := HW2.out.new.size; omega
 go_wp2_with fail
 have hHne : w.heap.size ≠ w2.heap.size := by omega
 have hle := Nat.le_of_lt hszw
 have B0 : IsBox w5 w2.heap.size := ⟨_, HV5.out.box⟩
 have B1 := B0.set 0 (.int .i64 k1)
 have B2 := B1.set 1 (.int .i64 p1)
 have B3 := B2.set 2 (.string n1)
 have B4 := B3.set 3 (.int .i64 m1)
 have HX := hid (((((HW5.out.store hB0 (w2.heap.size) B0 hBw hle hHne hbH2 0 (.int .i64 k1)).store hB0 (w2.heap.size) B1 hBw hle hHne hbH2 1 (.int .i64 p1)).store hB0 (w2.heap.size) B2 hBw hle hHne hbH2 2 (.string n1)).store hB0 (w2.heap.size) B3 hBw hle hHne hbH2 3 (.int .i64 m1)).store hB0 (w2.heap.size) B4 hBw hle hHne hbH2 4 (.slice ua ul uc))
 refine (behind_any w0 B b [61] t0 hB0 H0.out _ _ HX.out.sz HX.out.new HX.out.pr (by first | omega | (simp only [List.length_append, List.length_cons, List.length_nil]; omega))).mono ?_
 rintro e wz ⟨rfl, P1, P2, P3⟩
 have HZ := hid (HX.out.said hbH hB0 P1.out P2.out P3.out)
 go_wp2_with fail
 go_end0
 exact HZ.out.fin (by simp)

theorem pb_defrec (w0 : World) (B b : Nat) (p : Int) (x wd : List UInt8) (g o c : Nat) (k0 p0 : Int) (y0 : List UInt8) (m0 : Int) (g1 o1 c1 : Nat) (k1 p1 : Int) (n1 : ByteArray) (m1 : Int) (ua : Option Addr) (ul uc : Nat) (t0 : List (List UInt8)) (hB0 : w0.heap.size ≤ B) (hg : g < w0.heap.size) (_hc : 1 ≤ c) (hg1 : g1 < w0.heap.size) (_hc1 : 1 ≤ c1) (E0 : Nod w0 g o k0 p0 ⟨y0.toArray⟩ m0 (.slice (some ⟨g1, o1, none⟩) 1 c1)) (E1 : Nod w0 g1 o1 k1 p1 n1 m1 (.slice ua ul uc)) (h0 : WP w0 B b (Value.agg #[.int .i64 k1, .int .i64 p1, .string n1, .int .i64 m1, .slice ua ul uc]) 0 t0) :
  ∀ (w : World) (l : List (List UInt8)), B ≤ w.heap.size → Below w0.heap.size w0 w → PrAt B b l w → l.length + ([wd] ++ [[114, 101, 99]] ++ [x] ++ [y0] ++ ([61] :: t0)).length ≤ 900000 →
  Calls Tryz.prog 84 #[.pointer (some ⟨b, 0, none⟩), .string ⟨wd.toArray⟩, .agg #[.int .i64 2, .int .i64 p, .string ⟨x.toArray⟩, .int .i64 1, .slice (some ⟨g, o, none⟩) 1 c]] w fun e w' => PPost w B b (l ++ ([wd] ++ [[114, 101, 99]] ++ [x] ++ [y0] ++ ([61] :: t0))) e w' := by
 intro w l hB hn hp hl
 have hbH : w.heap.size ≠ b := by have := pr_lt hp; omega
 have H0 := hid h0
 have F0 := hid E0
 have F1 := hid E1
 have hl2 := hl
 simp only [List.length_append, List.length_cons, List.length_nil] at hl2
 obtain ⟨W0, hW0⟩ : ∃ W, W = w.alloc (.cells #[.int .i64 2, .int .i64 p, .string ⟨x.toArray⟩, .int .i64 1, .slice (some ⟨g, o, none⟩) 1 c] 24) := ⟨_, rfl⟩
 have HW0 : Hid (Pw w0 w W0 B b w.heap.size #[.int .i64 2, .int .i64 p, .string ⟨x.toArray⟩, .int .i64 1, .slice (some ⟨g, o, none⟩) 1 c] l) := by rw [hW0]; exact Pw.start _ hp hB hn
 have hsz0 : w.heap.size < W0.heap.size := by rw [hW0]; simp
 clear h0 E0 E1 hp hn hl
 go_enter Tryz.func84, Tryz.ntmps84
 go_upto_region 1 with fail
 rw [← hW0]
 clear hW0
 have a0_0 := HW0.out.cell 0 _ rfl
 have a1_0 := HW0.out.cell 1 _ rfl
 have a2_0 := HW0.out.cell 2 _ rfl
 have a3_0 := HW0.out.cell 3 _ rfl
 have a4_0 := HW0.out.cell 4 _ rfl
 go_wp2_with fail
 refine (say1 HW0.out hbH hB0 (wd) (by first | omega | (simp only [List.length_append, List.length_cons, List.length_nil]; omega))).mono ?_
 rintro e w1 ⟨rfl, HW1⟩
 clear a0_0 a1_0 a2_0 a3_0 a4_0
 have a0_1 := HW1.out.cell 0 _ rfl
 have a1_1 := HW1.out.cell 1 _ rfl
 have a2_1 := HW1.out.cell 2 _ rfl
 have a3_1 := HW1.out.cell 3 _ rfl
 have a4_1 := HW1.out.cell 4 _ rfl
 go_wp2_with fail
 refine (say1 HW1.out hbH hB0 ([114, 101, 99]) (by first | omega | (simp only [List.length_append, List.length_cons, List.length_nil]; omega))).mono ?_
 rintro e w2 ⟨rfl, HW2⟩
 clear a0_1 a1_1 a2_1 a3_1 a4_1
 have a0_2 := HW2.out.cell 0 _ rfl
 have a1_2 := HW2.out.cell 1 _ rfl
 have a2_2 := HW2.out.cell 2 _ rfl
 have a3_2 := HW2.out.cell 3 _ rfl
 have a4_2 := HW2.out.cell 4 _ rfl
 go_wp2_with fail
 refine (say1 HW2.out hbH hB0 (x) (by first | omega | (simp only [List.length_append, List.length_cons, List.length_nil]; omega))).mono ?_
 rintro e w3 ⟨rfl, HW3⟩
 clear a0_2 a1_2 a2_2 a3_2 a4_2
 have a0_3 := HW3.out.cell 0 _ rfl
 have a1_3 := HW3.out.cell 1 _ rfl
 have a2_3 := HW3.out.cell 2 _ rfl
 have a3_3 := HW3.out.cell 3 _ rfl
 have a4_3 := HW3.out.cell 4 _ rfl
 obtain ⟨f0, f1, f2, f3, f4⟩ := Nod.past F0.out hg HW3.out.new
 go_upto_region 6 with fail
 obtain ⟨V, hV⟩ : ∃ W, W = w3.alloc (.cells #[.int .i64 k0, .int .i64 p0, .string ⟨y0.toArray⟩, .int .i64 m0, .slice (some ⟨g1, o1, none⟩) 1 c1] 24) := ⟨_, rfl⟩
 rw [← hV]
 have hszw : w.heap.size < w3.heap.size := lt_of_obj HW3.out.box
 have hbH2 : w3.heap.size ≠ b := by have := pr_lt HW3.out.pr; omega
 have hBw := HW3.out.sz
 have HW4 : Hid (Pw w0 w V B b w.heap.size #[.int .i64 2, .int .i64 p, .string ⟨x.toArray⟩, .int .i64 1, .slice (some ⟨g, o, none⟩) 1 c] (((l ++ [wd]) ++ [[114, 101, 99]]) ++ [x])) := by rw [hV]; exact HW3.out.past ((Below.refl _ _).alloc (Nat.le_refl _) _)
 have HV4 : Hid (Pw w0 w3 V B b w3.heap.size #[.int .i64 k0, .int .i64 p0, .string ⟨y0.toArray⟩, .int .i64 m0, .slice (some ⟨g1, o1, none⟩) 1 c1] (((l ++ [wd]) ++ [[114, 101, 99]]) ++ [x])) := by rw [hV]; exact Pw.start _ HW3.out.pr HW3.out.sz HW3.out.new
 clear hV f0 f1 f2 f3 f4
 clear a0_3 a1_3 a2_3 a3_3 a4_3
 have a0_4 := HW4.out.cell 0 _ rfl
 have a1_4 := HW4.out.cell 1 _ rfl
 have a2_4 := HW4.out.cell 2 _ rfl
 have a3_4 := HW4.out.cell 3 _ rfl
 have a4_4 := HW4.out.cell 4 _ rfl
 have d0_4 := HV4.out.cell 0 _ rfl
 have d1_4 := HV4.out.cell 1 _ rfl
 have d2_4 := HV4.out.cell 2 _ rfl
 have d3_4 := HV4.out.cell 3 _ rfl
 have d4_4 := HV4.out.cell 4 _ rfl
 go_wp2_with fail
 refine (par_def p 1 _ _ _).mono ?_
 rintro e w5 ⟨rfl, HQ⟩
 have HW5 := hid (HW4.out.past HQ.out)
 have HV5 := hid (HV4.out.past HQ.out)
 clear a0_4 a1_4 a2_4 a3_4 a4_4
 clear d0_4 d1_4 d2_4 d3_4 d4_4
 have a0_5 := HW5.out.cell 0 _ rfl
 have a1_5 := HW5.out.cell 1 _ rfl
 have a2_5 := HW5.out.cell 2 _ rfl
 have a3_5 := HW5.out.cell 3 _ rfl
 have a4_5 := HW5.out.cell 4 _ rfl
 have d0_5 := HV5.out.cell 0 _ rfl
 have d1_5 := HV5.out.cell 1 _ rfl
 have d2_5 := HV5.out.cell 2 _ rfl
 have d3_5 := HV5.out.cell 3 _ rfl
 have d4_5 := HV5.out.cell 4 _ rfl
 go_wp2_with fail
 refine (sayr1 HW5.out.pr HW5.out.sz y0 (by first | omega | (simp only [List.length_append, List.length_cons, List.length_nil]; omega))).mono ?_
 rintro e w6 ⟨rfl, P1, P2, P3⟩
 have HW6 := hid (HW5.out.said hbH hB0 P1.out P2.out P3.out)
 have HV6 := hid (HV5.out.said hbH2 hB0 P1.out P2.out P3.out)
 clear P1 P2 P3
 clear a0_5 a1_5 a2_5 a3_5 a4_5
 clear d0_5 d1_5 d2_5 d3_5 d4_5
 have d0_6 := HV6.out.cell 0 _ rfl
 have d1_6 := HV6.out.cell 1 _ rfl
 have d2_6 := HV6.out.cell 2 _ rfl
 have d3_6 := HV6.out.cell 3 _ rfl
 have d4_6 := HV6.out.cell 4 _ rfl
 have zf : ∀ i, w6.frozen? ⟨w3.heap.size, i, none⟩ = false := fun i => by simp [World.frozen?, HV6.out.box]
 have z0 := zf 0
 have z1 := zf 1
 have z2 := zf 2
 have z3 := zf 3
 have z4 := zf 4
 clear zf
 obtain ⟨f0, f1, f2, f3, f4⟩ := Nod.past F1.out hg1 HW6.out.new
 have hgn : ¬ g1 = w3.heap.size := by have := HW3.out.new.size; omega
 go_wp2_with fail
 have hHne : w.heap.size ≠ w3.heap.size := by omega
 have hle := Nat.le_of_lt hszw
 have B0 : IsBox w6 w3.heap.size := ⟨_, HV6.out.box⟩
 have B1 := B0.set 0 (.int .i64 k1)
 have B2 := B1.set 1 (.int .i64 p1)
 have B3 := B2.set 2 (.string n1)
 have B4 := B3.set 3 (.int .i64 m1)
 have HX := hid (((((HW6.out.store hB0 (w3.heap.size) B0 hBw hle hHne hbH2 0 (.int .i64 k1)).store hB0 (w3.heap.size) B1 hBw hle hHne hbH2 1 (.int .i64 p1)).store hB0 (w3.heap.size) B2 hBw hle hHne hbH2 2 (.string n1)).store hB0 (w3.heap.size) B3 hBw hle hHne hbH2 3 (.int .i64 m1)).store hB0 (w3.heap.size) B4 hBw hle hHne hbH2 4 (.slice ua ul uc))
 refine (behind_any w0 B b [61] t0 hB0 H0.out _ _ HX.out.sz HX.out.new HX.out.pr (by first | omega | (simp only [List.length_append, List.length_cons, List.length_nil]; omega))).mono ?_
 rintro e wz ⟨rfl, P1, P2, P3⟩
 have HZ := hid (HX.out.said hbH hB0 P1.out P2.out P3.out)
 go_wp2_with fail
 go_end0
 exact HZ.out.fin (by simp)
end Go.Proofs.YtoajnlhegallpaaGreatDoor
