/-
  The program's printer: the row of an arrow.
  The program's printer: the type of a function.
  The program's printer: the whole program.
-/
import Derived.Test.YtoajnlhegallpaaGreatDoorMBa
import Derived.Test.YtoajnlhegallpaaGreatDoorMPl
import Derived.Test.YtoajnlhegallpaaGreatDoorMPe
set_option linter.unusedVariables false
set_option linter.unusedSimpArgs false
set_option maxRecDepth 100000
set_option maxHeartbeats 8000000
namespace Go.Proofs.YtoajnlhegallpaaGreatDoor
open Go.RowKit

structure Ps (w0 w W : World) (B b : Nat) (l : List (List UInt8)) : Prop where
 pr : PrAt B b l W
 bel : Below B w W
 oth : Lib.OthersKept 9 (some b) w W
 new : Below w0.heap.size w0 W
 sz : B ≤ W.heap.size
theorem Ps.past {w0 w W W' : World} {B b : Nat} {l : List (List UInt8)} (h : Ps w0 w W B b l) (hb : Below W.heap.size W W') : Ps w0 w W' B b l :=
 ⟨pr_past h.pr hb, h.bel.trans (hb.mono h.sz), h.oth.trans (oth_past hb), h.new.trans (hb.mono h.new.size), Nat.le_trans h.sz hb.size⟩
theorem Ps.said {w0 w W W' : World} {B b : Nat} {l l' : List (List UInt8)} (h : Ps w0 w W B b l) (h0 : w0.heap.size ≤ B) (hb : PrAt B b l' W') (hbel : Below B W W') (ho : Lib.OthersKept 9 (some b) W W') : Ps w0 w W' B b l' :=
 ⟨hb, h.bel.trans hbel, h.oth.trans ho, h.new.trans (hbel.mono h0), Nat.le_trans h.sz hbel.size⟩
theorem sayr3 {W : World} {B b : Nat} {l : List (List UInt8)} (hp : PrAt B b l W) (hB : B ≤ W.heap.size) (x y z : List UInt8) (hl : l.length ≤ 900000) :
  Calls Tryz.prog 49 #[.pointer (some ⟨b, 0, none⟩), .slice (some ⟨W.heap.size, 0, none⟩) 3 3] (W.alloc (.cells #[.string ⟨x.toArray⟩, .string ⟨y.toArray⟩, .string ⟨z.toArray⟩] 9)) fun e w' => PPost W B b (l ++ [x, y, z]) e w' := say_raw hp hB [x, y, z] (by simp; omega)

theorem rowTk_step (l : List (List UInt8)) (q : Nat) (h : q < l.length) : rowTk (l.take (q + 1)) = rowTk (l.take q) ++ (if q = 0 then [[45], [123], l[q]] else [[44], l[q]]) := by
 rw [List.take_succ_eq_append_getElem h]
 by_cases h0 : q = 0
 ·subst h0; simp [rowTk]
 ·rw [if_neg h0]
  cases l with
  | nil => simp at h
  | cons x r =>
   cases q with
   | zero => exact absurd rfl h0
   | succ q =>
    rw [List.take_succ_cons, List.cons_append]
    simp only [rowTk, List.flatMap_append, List.flatMap_cons, List.flatMap_nil, List.getElem_cons_succ, List.cons_append, List.append_nil]
theorem flat2_len (r : List (List UInt8)) : (r.flatMap fun y => [[44], y]).length = 2 * r.length := by
 induction r with
 | nil => rfl
 | cons y r ih => simp only [List.flatMap_cons, List.length_append, List.length_cons, List.length_nil, ih]; omega
theorem rowTk_mono (l : List (List UInt8)) (q : Nat) : (rowTk (l.take q)).length ≤ (rowTk l).length := by
 cases l with
 | nil => simp [rowTk]
 | cons x r =>
  cases q with
  | zero => simp [rowTk]
  | succ q =>
   rw [List.take_succ_cons]
   simp only [rowTk, List.length_cons, flat2_len, List.length_take]
   omega
theorem arrowP_any (w0 : World) (B b : Nat) (ns : List (List UInt8)) (sa : Option Addr) (L c : Nat) (hL : L = ns.length) (_hLc : L ≤ c) (hLb : L ≤ 90000) (hB0 : w0.heap.size ≤ B)
  (hN : ns ≠ [] → ∃ g o, sa = some ⟨g, o, none⟩ ∧ g < w0.heap.size ∧ ∀ j (h : j < ns.length), ∃ (k p m : Int) (va : Option Addr) (vl vc : Nat), Nod w0 g (o + j * 5) k p ⟨ns[j].toArray⟩ m (.slice va vl vc)) :
  ∀ (w : World) (l : List (List UInt8)), B ≤ w.heap.size → Below w0.heap.size w0 w → PrAt B b l w → l.length + (arrTk ns).length ≤ 900000 →
  Calls Tryz.prog 119 #[.pointer (some ⟨b, 0, none⟩), .slice sa L c] w fun e w' => PPost w B b (l ++ arrTk ns) e w' := by
 intro w l hB hn hp hl
 have hrr : l.length + (rowTk ns).length + 1 ≤ 900000 := by
  unfold arrTk at hl
  split at hl
  ·rename_i h; rw [h]; simp only [List.length_append, List.length_cons, List.length_nil] at hl; simp [rowTk]; omega
  ·simp only [List.length_append, List.length_cons, List.length_nil] at hl; omega
 have HNN := hid hN
 have HLL := hid hL
 have HS0 : Hid (Ps w0 w w B b l) := ⟨hp, Below.refl _ _, Lib.OthersKept.refl _ _ _, hn, hB⟩
 clear hN hL hp hn
 go_enter Tryz.func119, Tryz.ntmps119
 go_wp2_with fail
 go_loopw [8] (fun v wr => ∃ q : Nat, v = .int .i64 q ∧ q ≤ L ∧ Hid (Ps w0 w wr B b (l ++ rowTk (ns.take q)))) (fun v _ => L - (intOf v).toNat)
 case atStart => exact ⟨0, rfl, Nat.zero_le _, by simpa [rowTk] using HS0⟩
 case round =>
  obtain ⟨q, rfl, hq, HS⟩ := hrel
  have hrl : l.length + (rowTk (ns.take q)).length + 1 ≤ 900000 := by
   have h1 := rowTk_mono ns q
   omega
  by_cases hlt : q < L
  ·have hlt2 : q < ns.length := by rw [← HLL.out]; exact hlt
   obtain ⟨g, o, hsa, hg, hcell⟩ := HNN.out (by intro h; rw [h] at hlt2; simp at hlt2)
   subst hsa
   obtain ⟨k, p, m, va, vl, vc, hnod⟩ := hcell q hlt2
   have HST := hid (rowTk_step ns q hlt2)
   generalize ns[q] = x at hnod HST
   obtain ⟨f0, f1, f2, f3, f4⟩ := Nod.past hnod hg HS.out.new
   have hgn : ¬ g = wr.heap.size := by have := HS.out.new.size; omega
   clear hcell hnod
   have hqi : (q : Int) < (L : Int) := by omega
   go_upto_region 3 with fail
   obtain ⟨X, hX⟩ : ∃ X, X = wr.alloc (.cells #[.int .i64 k, .int .i64 p, .string ⟨x.toArray⟩, .int .i64 m, .slice va vl vc] 24) := ⟨_, rfl⟩
   rw [← hX]
   have HX : Hid (Ps w0 w X B b (l ++ rowTk (ns.take q))) := by rw [hX]; exact HS.out.past ((Below.refl _ _).alloc (Nat.le_refl _) _)
   have c2 : X.cell? ⟨wr.heap.size, 2, none⟩ = some (.string ⟨x.toArray⟩) := by rw [hX]; simp [go_sem]
   clear hX f0 f1 f2 f3 f4
   by_cases h0 : q = 0
   ·have hz : (q : Int) = 0 := by omega
    have hll : (l ++ rowTk (ns.take q)).length ≤ 900000 := by rw [List.length_append]; omega
    go_wp2_with fail
    refine (sayr3 HX.out.pr HX.out.sz [45] [123] x hll).mono ?_
    rintro e w2 ⟨rfl, P1, P2, P3⟩
    have HS2 := hid (HX.out.said hB0 P1.out P2.out P3.out)
    go_wp2_with fail
    go_roundw
    case rel => exact ⟨q + 1, by go_num, by omega, by rw [HST.out, if_pos h0, ← List.append_assoc]; exact HS2⟩
    case measure => simp [intOf] <;> omega
   ·have hz : ¬ (q : Int) = 0 := by omega
    have hll : (l ++ rowTk (ns.take q)).length ≤ 900000 := by rw [List.length_append]; omega
    go_wp2_with fail
    refine (sayr2 HX.out.pr HX.out.sz [44] x hll).mono ?_
    rintro e w2 ⟨rfl, P1, P2, P3⟩
    have HS2 := hid (HX.out.said hB0 P1.out P2.out P3.out)
    go_wp2_with fail
    go_roundw
    case rel => exact ⟨q + 1, by go_num, by omega, by rw [HST.out, if_neg h0, ← List.append_assoc]; exact HS2⟩
    case measure => simp [intOf] <;> omega
  ·have hqe : q = ns.length := by have := HLL.out; omega
   have HE : Hid (ns.take q = ns) := by rw [hqe]; exact List.take_length
   rw [HE.out] at HS hrl
   clear hqe
   by_cases hL0 : 0 < L
   ·have hne : ns ≠ [] := by intro h; have h1 := HLL.out; rw [h] at h1; simp at h1; omega
    go_wp2_with fail
    refine (sayr1 HS.out.pr HS.out.sz [125] (by rw [List.length_append]; omega)).mono ?_
    rintro e w2 ⟨rfl, P1, P2, P3⟩
    have HS2 := hid (HS.out.said hB0 P1.out P2.out P3.out)
    clear P1 P2 P3
    go_wp2_with fail
    refine (sayr1 HS2.out.pr HS2.out.sz [45, 62] (by simp only [List.length_append, List.length_cons, List.length_nil]; omega)).mono ?_
    rintro e w3 ⟨rfl, P1, P2, P3⟩
    have HS3 := hid (HS2.out.said hB0 P1.out P2.out P3.out)
    go_wp2_with fail
    go_end0
    have e : l ++ arrTk ns = l ++ rowTk ns ++ [[125]] ++ [[45, 62]] := by simp [arrTk, hne]
    rw [e]
    exact ⟨rfl, HS3.out.pr, HS3.out.bel, HS3.out.oth⟩
   ·have hne : ns = [] := by have h1 := HLL.out; exact List.length_eq_zero_iff.1 (by omega)
    subst hne
    go_wp2_with fail
    refine (sayr1 HS.out.pr HS.out.sz [45, 62] (by rw [List.length_append]; omega)).mono ?_
    rintro e w2 ⟨rfl, P1, P2, P3⟩
    have HS2 := hid (HS.out.said hB0 P1.out P2.out P3.out)
    go_wp2_with fail
    go_end0
    have e : l ++ arrTk [] = l ++ rowTk [] ++ [[45, 62]] := by simp [arrTk, rowTk]
    rw [e]
    exact ⟨rfl, HS2.out.pr, HS2.out.bel, HS2.out.oth⟩

open Go.RowKit

theorem pk_yfnA (w0 : World) (B b : Nat) (p m : Int) (x : List UInt8) (g o : Nat) (k0 p0 : Int) (n0 : ByteArray) (m0 : Int) (v0 : Value) (k1 p1 : Int) (n1 : ByteArray) (m1 : Int) (v1 : Value) (t0 : List (List UInt8)) (t1 : List (List UInt8)) (hB0 : w0.heap.size ≤ B) (hg : g < w0.heap.size) (E0 : Nod w0 g (o) k0 p0 n0 m0 v0) (E1 : Nod w0 g (o + 5) k1 p1 n1 m1 v1) (h0 : WP w0 B b (Value.agg #[.int .i64 k0, .int .i64 p0, .string n0, .int .i64 m0, v0]) 1 t0) (h1 : WP w0 B b (Value.agg #[.int .i64 k1, .int .i64 p1, .string n1, .int .i64 m1, v1]) 0 t1) :
  ∀ (w : World) (l : List (List UInt8)), B ≤ w.heap.size → Below w0.heap.size w0 w → PrAt B b l w → l.length + (t0 ++ arrTk [] ++ t1).length ≤ 900000 →
  Calls Tryz.prog 88 #[.pointer (some ⟨b, 0, none⟩), .agg #[.int .i64 29, .int .i64 p, .string ⟨x.toArray⟩, .int .i64 m, .slice (some ⟨g, o, none⟩) 2 2]] w fun e w' => PPost w B b (l ++ (t0 ++ arrTk [] ++ t1)) e w' := by
 intro w l hB hn hp hl
 have hbH : w.heap.size ≠ b := by have := pr_lt hp; omega
 have H0 := hid h0
 have H1 := hid h1
 have F0 := hid E0
 have F1 := hid E1
 have hl2 := hl
 simp only [List.length_append] at hl2
 clear hl
 obtain ⟨W0, hW0⟩ : ∃ W, W = w.alloc (.cells #[.int .i64 29, .int .i64 p, .string ⟨x.toArray⟩, .int .i64 m, .slice (some ⟨g, o, none⟩) 2 2] 24) := ⟨_, rfl⟩
 have HW0 : Hid (Pw w0 w W0 B b w.heap.size #[.int .i64 29, .int .i64 p, .string ⟨x.toArray⟩, .int .i64 m, .slice (some ⟨g, o, none⟩) 2 2] l) := by rw [hW0]; exact Pw.start _ hp hB hn
 clear h0 h1 E0 E1 hp hn
 go_enter Tryz.func88, Tryz.ntmps88
 go_upto_region 1 with fail
 rw [← hW0]
 clear hW0
 have a0_0 := HW0.out.cell 0 _ rfl
 have a1_0 := HW0.out.cell 1 _ rfl
 have a2_0 := HW0.out.cell 2 _ rfl
 have a3_0 := HW0.out.cell 3 _ rfl
 have a4_0 := HW0.out.cell 4 _ rfl
 obtain ⟨f00_0, f01_0, f02_0, f03_0, f04_0⟩ := Nod.past F0.out hg HW0.out.new
 obtain ⟨f10_0, f11_0, f12_0, f13_0, f14_0⟩ := Nod.past F1.out hg HW0.out.new
 go_wp2_with fail
 refine (sides_yfn p m x _ _).mono ?_
 rintro e w1 ⟨rfl, HQ1⟩
 have HW1 := hid (HW0.out.past HQ1.out)
 clear a0_0 a1_0 a2_0 a3_0 a4_0 f00_0 f01_0 f02_0 f03_0 f04_0 f10_0 f11_0 f12_0 f13_0 f14_0
 have a0_1 := HW1.out.cell 0 _ rfl
 have a1_1 := HW1.out.cell 1 _ rfl
 have a2_1 := HW1.out.cell 2 _ rfl
 have a3_1 := HW1.out.cell 3 _ rfl
 have a4_1 := HW1.out.cell 4 _ rfl
 obtain ⟨f00_1, f01_1, f02_1, f03_1, f04_1⟩ := Nod.past F0.out hg HW1.out.new
 obtain ⟨f10_1, f11_1, f12_1, f13_1, f14_1⟩ := Nod.past F1.out hg HW1.out.new
 go_wp2_with fail
 refine (H0.out _ _ HW1.out.sz HW1.out.new HW1.out.pr (by first | omega | (simp only [List.length_append, List.length_cons, List.length_nil]; omega))).mono ?_
 rintro e w2 ⟨rfl, P1, P2, P3⟩
 have HW2 := hid (HW1.out.said hbH hB0 P1.out P2.out P3.out)
 clear P1 P2 P3
 clear a0_1 a1_1 a2_1 a3_1 a4_1 f00_1 f01_1 f02_1 f03_1 f04_1 f10_1 f11_1 f12_1 f13_1 f14_1
 have a0_2 := HW2.out.cell 0 _ rfl
 have a1_2 := HW2.out.cell 1 _ rfl
 have a2_2 := HW2.out.cell 2 _ rfl
 have a3_2 := HW2.out.cell 3 _ rfl
 have a4_2 := HW2.out.cell 4 _ rfl
 obtain ⟨f00_2, f01_2, f02_2, f03_2, f04_2⟩ := Nod.past F0.out hg HW2.out.new
 obtain ⟨f10_2, f11_2, f12_2, f13_2, f14_2⟩ := Nod.past F1.out hg HW2.out.new
 go_wp2_with fail
 refine (arrowP_any w0 B b [] (some ⟨g, o, none⟩) 0 0 rfl (Nat.le_refl _) (by omega) hB0 (fun h => absurd rfl h) _ _ HW2.out.sz HW2.out.new HW2.out.pr (by first | omega | (simp only [List.length_append]; omega))).mono ?_
 rintro e w3 ⟨rfl, P1, P2, P3⟩
 have HW3 := hid (HW2.out.said hbH hB0 P1.out P2.out P3.out)
 clear P1 P2 P3
 clear a0_2 a1_2 a2_2 a3_2 a4_2 f00_2 f01_2 f02_2 f03_2 f04_2 f10_2 f11_2 f12_2 f13_2 f14_2
 have a0_3 := HW3.out.cell 0 _ rfl
 have a1_3 := HW3.out.cell 1 _ rfl
 have a2_3 := HW3.out.cell 2 _ rfl
 have a3_3 := HW3.out.cell 3 _ rfl
 have a4_3 := HW3.out.cell 4 _ rfl
 obtain ⟨f00_3, f01_3, f02_3, f03_3, f04_3⟩ := Nod.past F0.out hg HW3.out.new
 obtain ⟨f10_3, f11_3, f12_3, f13_3, f14_3⟩ := Nod.past F1.out hg HW3.out.new
 go_wp2_with fail
 refine (H1.out _ _ HW3.out.sz HW3.out.new HW3.out.pr (by first | omega | (simp only [List.length_append]; omega))).mono ?_
 rintro e w4 ⟨rfl, P1, P2, P3⟩
 have HW4 := hid (HW3.out.said hbH hB0 P1.out P2.out P3.out)
 clear P1 P2 P3
 clear a0_3 a1_3 a2_3 a3_3 a4_3 f00_3 f01_3 f02_3 f03_3 f04_3 f10_3 f11_3 f12_3 f13_3 f14_3
 go_wp2_with fail
 go_end0
 exact HW4.out.fin (by simp)

theorem pk_yfnB (w0 : World) (B b : Nat) (p m : Int) (x : List UInt8) (g o c L : Nat) (ns : List (List UInt8)) (k0 p0 : Int) (n0 : ByteArray) (m0 : Int) (v0 : Value) (k1 p1 : Int) (n1 : ByteArray) (m1 : Int) (v1 : Value) (t0 : List (List UInt8)) (t1 : List (List UInt8)) (hB0 : w0.heap.size ≤ B) (hg : g < w0.heap.size) (hL : L = ns.length + 2) (hLb : ns.length ≤ 90000) (hc : L ≤ c) (hc2 : ¬ c = 2) (E0 : Nod w0 g (o) k0 p0 n0 m0 v0) (E1 : Nod w0 g (o + 5) k1 p1 n1 m1 v1) (hN : ∀ j (h : j < ns.length), ∃ (k p m : Int) (va : Option Addr) (vl vc : Nat), Nod w0 g (o + 10 + j * 5) k p ⟨ns[j].toArray⟩ m (.slice va vl vc)) (h0 : WP w0 B b (Value.agg #[.int .i64 k0, .int .i64 p0, .string n0, .int .i64 m0, v0]) 1 t0) (h1 : WP w0 B b (Value.agg #[.int .i64 k1, .int .i64 p1, .string n1, .int .i64 m1, v1]) 0 t1) :
  ∀ (w : World) (l : List (List UInt8)), B ≤ w.heap.size → Below w0.heap.size w0 w → PrAt B b l w → l.length + (t0 ++ arrTk ns ++ t1).length ≤ 900000 →
  Calls Tryz.prog 88 #[.pointer (some ⟨b, 0, none⟩), .agg #[.int .i64 29, .int .i64 p, .string ⟨x.toArray⟩, .int .i64 m, .slice (some ⟨g, o, none⟩) L c]] w fun e w' => PPost w B b (l ++ (t0 ++ arrTk ns ++ t1)) e w' := by
 intro w l hB hn hp hl
 have hbH : w.heap.size ≠ b := by have := pr_lt hp; omega
 have H0 := hid h0
 have H1 := hid h1
 have HNN := hid hN
 have hL1 : 2 ≤ L := by omega
 have hL2 : L ≤ ns.length + 2 := by omega
 have hL3 : ns.length + 2 ≤ L := by omega
 clear hN hL
 have F0 := hid E0
 have F1 := hid E1
 have hl2 := hl
 simp only [List.length_append] at hl2
 clear hl
 obtain ⟨W0, hW0⟩ : ∃ W, W = w.alloc (.cells #[.int .i64 29, .int .i64 p, .string ⟨x.toArray⟩, .int .i64 m, .slice (some ⟨g, o, none⟩) L c] 24) := ⟨_, rfl⟩
 have HW0 : Hid (Pw w0 w W0 B b w.heap.size #[.int .i64 29, .int .i64 p, .string ⟨x.toArray⟩, .int .i64 m, .slice (some ⟨g, o, none⟩) L c] l) := by rw [hW0]; exact Pw.start _ hp hB hn
 clear h0 h1 E0 E1 hp hn
 go_enter Tryz.func88, Tryz.ntmps88
 go_upto_region 1 with fail
 rw [← hW0]
 clear hW0
 have a0_0 := HW0.out.cell 0 _ rfl
 have a1_0 := HW0.out.cell 1 _ rfl
 have a2_0 := HW0.out.cell 2 _ rfl
 have a3_0 := HW0.out.cell 3 _ rfl
 have a4_0 := HW0.out.cell 4 _ rfl
 obtain ⟨f00_0, f01_0, f02_0, f03_0, f04_0⟩ := Nod.past F0.out hg HW0.out.new
 obtain ⟨f10_0, f11_0, f12_0, f13_0, f14_0⟩ := Nod.past F1.out hg HW0.out.new
 go_wp2_with fail
 refine (sides_yfn p m x _ _).mono ?_
 rintro e w1 ⟨rfl, HQ1⟩
 have HW1 := hid (HW0.out.past HQ1.out)
 clear a0_0 a1_0 a2_0 a3_0 a4_0 f00_0 f01_0 f02_0 f03_0 f04_0 f10_0 f11_0 f12_0 f13_0 f14_0
 have a0_1 := HW1.out.cell 0 _ rfl
 have a1_1 := HW1.out.cell 1 _ rfl
 have a2_1 := HW1.out.cell 2 _ rfl
 have a3_1 := HW1.out.cell 3 _ rfl
 have a4_1 := HW1.out.cell 4 _ rfl
 obtain ⟨f00_1, f01_1, f02_1, f03_1, f04_1⟩ := Nod.past F0.out hg HW1.out.new
 obtain ⟨f10_1, f11_1, f12_1, f13_1, f14_1⟩ := Nod.past F1.out hg HW1.out.new
 go_wp2_with fail
 refine (H0.out _ _ HW1.out.sz HW1.out.new HW1.out.pr (by first | omega | (simp only [List.length_append, List.length_cons, List.length_nil]; omega))).mono ?_
 rintro e w2 ⟨rfl, P1, P2, P3⟩
 have HW2 := hid (HW1.out.said hbH hB0 P1.out P2.out P3.out)
 clear P1 P2 P3
 clear a0_1 a1_1 a2_1 a3_1 a4_1 f00_1 f01_1 f02_1 f03_1 f04_1 f10_1 f11_1 f12_1 f13_1 f14_1
 have a0_2 := HW2.out.cell 0 _ rfl
 have a1_2 := HW2.out.cell 1 _ rfl
 have a2_2 := HW2.out.cell 2 _ rfl
 have a3_2 := HW2.out.cell 3 _ rfl
 have a4_2 := HW2.out.cell 4 _ rfl
 obtain ⟨f00_2, f01_2, f02_2, f03_2, f04_2⟩ := Nod.past F0.out hg HW2.out.new
 obtain ⟨f10_2, f11_2, f12_2, f13_2, f14_2⟩ := Nod.past F1.out hg HW2.out.new
 go_wp2_with fail
 refine (arrowP_any w0 B b ns (some ⟨g, o + 10, none⟩) (L - 2) (c - 2) (by omega) (by omega) (by omega) hB0 (fun _ => ⟨g, o + 10, rfl, hg, HNN.out⟩) _ _ HW2.out.sz HW2.out.new HW2.out.pr (by first | omega | (simp only [List.length_append]; omega))).mono ?_
 rintro e w3 ⟨rfl, P1, P2, P3⟩
 have HW3 := hid (HW2.out.said hbH hB0 P1.out P2.out P3.out)
 clear P1 P2 P3
 clear a0_2 a1_2 a2_2 a3_2 a4_2 f00_2 f01_2 f02_2 f03_2 f04_2 f10_2 f11_2 f12_2 f13_2 f14_2
 have a0_3 := HW3.out.cell 0 _ rfl
 have a1_3 := HW3.out.cell 1 _ rfl
 have a2_3 := HW3.out.cell 2 _ rfl
 have a3_3 := HW3.out.cell 3 _ rfl
 have a4_3 := HW3.out.cell 4 _ rfl
 obtain ⟨f00_3, f01_3, f02_3, f03_3, f04_3⟩ := Nod.past F0.out hg HW3.out.new
 obtain ⟨f10_3, f11_3, f12_3, f13_3, f14_3⟩ := Nod.past F1.out hg HW3.out.new
 go_wp2_with fail
 refine (H1.out _ _ HW3.out.sz HW3.out.new HW3.out.pr (by first | omega | (simp only [List.length_append]; omega))).mono ?_
 rintro e w4 ⟨rfl, P1, P2, P3⟩
 have HW4 := hid (HW3.out.said hbH hB0 P1.out P2.out P3.out)
 clear P1 P2 P3
 clear a0_3 a1_3 a2_3 a3_3 a4_3 f00_3 f01_3 f02_3 f03_3 f04_3 f10_3 f11_3 f12_3 f13_3 f14_3
 go_wp2_with fail
 go_end0
 exact HW4.out.fin (by simp)

open Go.RowKit
open Sy (Tr)

theorem flat_step {α : Type} (f : α → List (List UInt8)) (l : List α) (q : Nat) (h : q < l.length) : (l.take (q + 1)).flatMap f = (l.take q).flatMap f ++ f l[q] := by
 rw [List.take_succ_eq_append_getElem h, List.flatMap_append]
 simp only [List.flatMap_cons, List.flatMap_nil, List.append_nil]
theorem flat_len_le {α : Type} (f : α → List (List UInt8)) (l : List α) (q : Nat) : ((l.take q).flatMap f).length ≤ (l.flatMap f).length := by
 have := congrArg (fun x => (x.flatMap f).length) (List.take_append_drop q l)
 simp only [List.flatMap_append, List.length_append] at this
 omega

theorem progP_any (w0 : World) (B b : Nat) (p m : Int) (x : List UInt8) (g o c L la : Nat) (ks : List Tr) (va : Nat → Option Addr) (vl vc : Nat → Nat) (f : Tr → List (List UInt8)) (tl : List (List UInt8)) (last : Tr) (hB0 : w0.heap.size ≤ B) (hg : g < w0.heap.size)
  (hla : la = ks.length) (hL : L = la + 1) (hLb : la ≤ 90000) (hc : L ≤ c)
  (hN : ∀ j (h : j < ks.length), Nod w0 g (o + j * 5) ks[j].kind ks[j].pos ⟨ks[j].name.toArray⟩ ks[j].num (.slice (va j) (vl j) (vc j)) ∧ WP w0 B b (.agg #[.int .i64 ks[j].kind, .int .i64 ks[j].pos, .string ⟨ks[j].name.toArray⟩, .int .i64 ks[j].num, .slice (va j) (vl j) (vc j)]) 0 (f ks[j]))
  (hE : Nod w0 g (o + la * 5) last.kind last.pos ⟨last.name.toArray⟩ last.num (.slice (va la) (vl la) (vc la)))
  (hW : WP w0 B b (.agg #[.int .i64 last.kind, .int .i64 last.pos, .string ⟨last.name.toArray⟩, .int .i64 last.num, .slice (va la) (vl la) (vc la)]) 0 tl) :
  ∀ (w : World) (l : List (List UInt8)), B ≤ w.heap.size → Below w0.heap.size w0 w → PrAt B b l w → l.length + (ks.flatMap f ++ [[109, 97, 105, 110]] ++ ([61] :: tl)).length ≤ 900000 →
  Calls Tryz.prog 82 #[.pointer (some ⟨b, 0, none⟩), .agg #[.int .i64 0, .int .i64 p, .string ⟨x.toArray⟩, .int .i64 m, .slice (some ⟨g, o, none⟩) L c]] w fun e w' => PPost w B b (l ++ (ks.flatMap f ++ [[109, 97, 105, 110]] ++ ([61] :: tl))) e w' := by
 intro w l hB hn hp hl
 have hbH : w.heap.size ≠ b := by have := pr_lt hp; omega
 have HNN := hid hN
 have HEE := hid hE
 have HWW := hid hW
 have HLA := hid hla
 have hl2 := hl
 simp only [List.length_append, List.length_cons, List.length_nil] at hl2
 have hL1 : L ≤ la + 1 := by omega
 have hL2 : la + 1 ≤ L := by omega
 clear hl hN hE hW hla hL
 obtain ⟨W0, hW0⟩ : ∃ W, W = w.alloc (.cells #[.int .i64 0, .int .i64 p, .string ⟨x.toArray⟩, .int .i64 m, .slice (some ⟨g, o, none⟩) L c] 24) := ⟨_, rfl⟩
 have HW0 : Hid (Pw w0 w W0 B b w.heap.size #[.int .i64 0, .int .i64 p, .string ⟨x.toArray⟩, .int .i64 m, .slice (some ⟨g, o, none⟩) L c] l) := by rw [hW0]; exact Pw.start _ hp hB hn
 clear hp hn
 go_enter Tryz.func82, Tryz.ntmps82
 go_upto_region 1 with fail
 rw [← hW0]
 clear hW0
 have a4_0 := HW0.out.cell 4 _ rfl
 go_wp2_with fail
 go_loopw [16] (fun v wr => ∃ q : Nat, v = .int .i64 q ∧ q ≤ la ∧ Hid (Pw w0 w wr B b w.heap.size #[.int .i64 0, .int .i64 p, .string ⟨x.toArray⟩, .int .i64 m, .slice (some ⟨g, o, none⟩) L c] (l ++ (ks.take q).flatMap f))) (fun v _ => la - (intOf v).toNat)
 case atStart => exact ⟨0, rfl, Nat.zero_le _, by simpa using HW0⟩
 case round =>
  obtain ⟨q, rfl, hq, HS⟩ := hrel
  by_cases hlt : q < la
  ·have hlt2 : q < ks.length := by rw [← HLA.out]; exact hlt
   obtain ⟨hnod, hwp⟩ := HNN.out q hlt2
   have HST := hid (flat_step f ks q hlt2)
   have hlen : l.length + ((ks.take q).flatMap f).length + (f ks[q]).length ≤ 900000 := by
    have h1 := flat_len_le f ks (q + 1)
    rw [HST.out, List.length_append] at h1
    omega
   have HWP := hid hwp
   generalize ks[q] = t at hnod HWP HST hlen
   obtain ⟨f0, f1, f2, f3, f4⟩ := Nod.past hnod hg HS.out.new
   have hgn : ¬ g = wr.heap.size := by have := HS.out.new.size; omega
   clear hwp hnod
   have hqi : (q : Int) < (L : Int) - 1 := by omega
   have hqi2 : (q : Int) < ((L - 1 : Nat) : Int) := by omega
   generalize va q = va1 at f4 HWP
   generalize vl q = vl1 at f4 HWP
   generalize vc q = vc1 at f4 HWP
   generalize (t.kind : Int) = tk at f0 HWP
   generalize (t.pos : Int) = tp at f1 HWP
   generalize t.name = tn at f2 HWP
   generalize t.num = tm at f3 HWP
   go_upto_region 5 with fail
   obtain ⟨X, hX⟩ : ∃ X, X = wr.alloc (.cells #[.int .i64 tk, .int .i64 tp, .string ⟨tn.toArray⟩, .int .i64 tm, .slice va1 vl1 vc1] 24) := ⟨_, rfl⟩
   rw [← hX]
   have HX : Hid (Pw w0 w X B b w.heap.size #[.int .i64 0, .int .i64 p, .string ⟨x.toArray⟩, .int .i64 m, .slice (some ⟨g, o, none⟩) L c] (l ++ (ks.take q).flatMap f)) := by rw [hX]; exact HS.out.past ((Below.refl _ _).alloc (Nat.le_refl _) _)
   have c0 : X.cell? ⟨wr.heap.size, 0, none⟩ = some (.int .i64 tk) := by rw [hX]; simp [go_sem]
   have c1 : X.cell? ⟨wr.heap.size, 1, none⟩ = some (.int .i64 tp) := by rw [hX]; simp [go_sem]
   have c2 : X.cell? ⟨wr.heap.size, 2, none⟩ = some (.string ⟨tn.toArray⟩) := by rw [hX]; simp [go_sem]
   have c3 : X.cell? ⟨wr.heap.size, 3, none⟩ = some (.int .i64 tm) := by rw [hX]; simp [go_sem]
   have c4 : X.cell? ⟨wr.heap.size, 4, none⟩ = some (.slice va1 vl1 vc1) := by rw [hX]; simp [go_sem]
   clear hX f0 f1 f2 f3 f4
   go_wp2_with fail
   refine (HWP.out _ _ HX.out.sz HX.out.new HX.out.pr (by rw [List.length_append]; omega)).mono ?_
   rintro e w2 ⟨rfl, P1, P2, P3⟩
   have HS2 := hid (HX.out.said hbH hB0 P1.out P2.out P3.out)
   go_wp2_with fail
   go_roundw
   case rel => exact ⟨q + 1, by go_num, by omega, by rw [HST.out, ← List.append_assoc]; exact HS2⟩
   case measure => simp [intOf] <;> omega
  ·have hqe : q = ks.length := by have := HLA.out; omega
   have HE : Hid (ks.take q = ks) := by rw [hqe]; exact List.take_length
   have hqq : q ≤ L - 1 := by omega
   have hqq2 : ¬ (q : Int) < ((L - 1 : Nat) : Int) := by omega
   rw [HE.out] at HS
   clear hqe
   go_wp2_with fail
   refine (say1 HS.out hbH hB0 [109, 97, 105, 110] (by rw [List.length_append]; omega)).mono ?_
   rintro e w2 ⟨rfl, HW2⟩
   have a4_2 := HW2.out.cell 4 _ rfl
   obtain ⟨f0, f1, f2, f3, f4⟩ := Nod.past HEE.out hg HW2.out.new
   have hLL : L - 1 = la := by omega
   go_wp2_with fail
   refine (behind_any w0 B b [61] tl hB0 HWW.out _ _ HW2.out.sz HW2.out.new HW2.out.pr (by simp only [List.length_append, List.length_cons, List.length_nil]; omega)).mono ?_
   rintro e w3 ⟨rfl, P1, P2, P3⟩
   have HW3 := hid (HW2.out.said hbH hB0 P1.out P2.out P3.out)
   go_wp2_with fail
   go_end0
   exact HW3.out.fin (by simp)
end Go.Proofs.YtoajnlhegallpaaGreatDoor
