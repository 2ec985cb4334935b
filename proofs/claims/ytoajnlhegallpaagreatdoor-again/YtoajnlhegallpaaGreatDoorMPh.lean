/-
  The program's printer: from the functions that bare goes on to, to bare.
-/
import Derived.Test.YtoajnlhegallpaaGreatDoorMPc
set_option linter.unusedVariables false
set_option linter.unusedSimpArgs false
set_option maxRecDepth 100000
set_option maxHeartbeats 8000000
namespace Go.Proofs.YtoajnlhegallpaaGreatDoor
open Go.RowKit

theorem bd_3 (w0 : World) (B b : Nat) (p m : Int) (x : List UInt8) (va : Option Addr) (vl vc : Nat) (ts : List (List UInt8)) (hB0 : w0.heap.size ≤ B)
  (h : ∀ (w : World) (l : List (List UInt8)), B ≤ w.heap.size → Below w0.heap.size w0 w → PrAt B b l w → l.length + ts.length ≤ 900000 → Calls Tryz.prog 90 #[.pointer (some ⟨b, 0, none⟩), .agg #[.int .i64 3, .int .i64 p, .string ⟨x.toArray⟩, .int .i64 m, .slice va vl vc]] w fun e w' => PPost w B b (l ++ ts) e w') :
  BP w0 B b (.agg #[.int .i64 3, .int .i64 p, .string ⟨x.toArray⟩, .int .i64 m, .slice va vl vc]) ts := by
 intro w l hB hn hp hl
 have hbH : w.heap.size ≠ b := by have := pr_lt hp; omega
 have H := hid h
 obtain ⟨W0, hW0⟩ : ∃ W, W = w.alloc (.cells #[.int .i64 3, .int .i64 p, .string ⟨x.toArray⟩, .int .i64 m, .slice va vl vc] 24) := ⟨_, rfl⟩
 have HW0 : Hid (Pw w0 w W0 B b w.heap.size #[.int .i64 3, .int .i64 p, .string ⟨x.toArray⟩, .int .i64 m, .slice va vl vc] l) := by rw [hW0]; exact Pw.start _ hp hB hn
 clear h hp hn
 go_enter Tryz.func48, Tryz.ntmps48
 go_upto_region 1 with fail
 rw [← hW0]
 clear hW0
 have a0 := HW0.out.cell 0 _ rfl
 have a1 := HW0.out.cell 1 _ rfl
 have a2 := HW0.out.cell 2 _ rfl
 have a3 := HW0.out.cell 3 _ rfl
 have a4 := HW0.out.cell 4 _ rfl
 go_wp2_with fail
 refine (H.out _ l HW0.out.sz HW0.out.new HW0.out.pr hl).mono ?_
 rintro e w1 ⟨rfl, P1, P2, P3⟩
 have HW1 := hid (HW0.out.said hbH hB0 P1.out P2.out P3.out)
 go_wp2_with fail
 go_end0
 exact HW1.out.fin rfl

theorem bd_4 (w0 : World) (B b : Nat) (p m : Int) (x : List UInt8) (va : Option Addr) (vl vc : Nat) (ts : List (List UInt8)) (hB0 : w0.heap.size ≤ B)
  (h : ∀ (w : World) (l : List (List UInt8)), B ≤ w.heap.size → Below w0.heap.size w0 w → PrAt B b l w → l.length + ts.length ≤ 900000 → Calls Tryz.prog 90 #[.pointer (some ⟨b, 0, none⟩), .agg #[.int .i64 4, .int .i64 p, .string ⟨x.toArray⟩, .int .i64 m, .slice va vl vc]] w fun e w' => PPost w B b (l ++ ts) e w') :
  BP w0 B b (.agg #[.int .i64 4, .int .i64 p, .string ⟨x.toArray⟩, .int .i64 m, .slice va vl vc]) ts := by
 intro w l hB hn hp hl
 have hbH : w.heap.size ≠ b := by have := pr_lt hp; omega
 have H := hid h
 obtain ⟨W0, hW0⟩ : ∃ W, W = w.alloc (.cells #[.int .i64 4, .int .i64 p, .string ⟨x.toArray⟩, .int .i64 m, .slice va vl vc] 24) := ⟨_, rfl⟩
 have HW0 : Hid (Pw w0 w W0 B b w.heap.size #[.int .i64 4, .int .i64 p, .string ⟨x.toArray⟩, .int .i64 m, .slice va vl vc] l) := by rw [hW0]; exact Pw.start _ hp hB hn
 clear h hp hn
 go_enter Tryz.func48, Tryz.ntmps48
 go_upto_region 1 with fail
 rw [← hW0]
 clear hW0
 have a0 := HW0.out.cell 0 _ rfl
 have a1 := HW0.out.cell 1 _ rfl
 have a2 := HW0.out.cell 2 _ rfl
 have a3 := HW0.out.cell 3 _ rfl
 have a4 := HW0.out.cell 4 _ rfl
 go_wp2_with fail
 refine (H.out _ l HW0.out.sz HW0.out.new HW0.out.pr hl).mono ?_
 rintro e w1 ⟨rfl, P1, P2, P3⟩
 have HW1 := hid (HW0.out.said hbH hB0 P1.out P2.out P3.out)
 go_wp2_with fail
 go_end0
 exact HW1.out.fin rfl

theorem bd_5 (w0 : World) (B b : Nat) (p m : Int) (x : List UInt8) (va : Option Addr) (vl vc : Nat) (ts : List (List UInt8)) (hB0 : w0.heap.size ≤ B)
  (h : ∀ (w : World) (l : List (List UInt8)), B ≤ w.heap.size → Below w0.heap.size w0 w → PrAt B b l w → l.length + ts.length ≤ 900000 → Calls Tryz.prog 90 #[.pointer (some ⟨b, 0, none⟩), .agg #[.int .i64 5, .int .i64 p, .string ⟨x.toArray⟩, .int .i64 m, .slice va vl vc]] w fun e w' => PPost w B b (l ++ ts) e w') :
  BP w0 B b (.agg #[.int .i64 5, .int .i64 p, .string ⟨x.toArray⟩, .int .i64 m, .slice va vl vc]) ts := by
 intro w l hB hn hp hl
 have hbH : w.heap.size ≠ b := by have := pr_lt hp; omega
 have H := hid h
 obtain ⟨W0, hW0⟩ : ∃ W, W = w.alloc (.cells #[.int .i64 5, .int .i64 p, .string ⟨x.toArray⟩, .int .i64 m, .slice va vl vc] 24) := ⟨_, rfl⟩
 have HW0 : Hid (Pw w0 w W0 B b w.heap.size #[.int .i64 5, .int .i64 p, .string ⟨x.toArray⟩, .int .i64 m, .slice va vl vc] l) := by rw [hW0]; exact Pw.start _ hp hB hn
 clear h hp hn
 go_enter Tryz.func48, Tryz.ntmps48
 go_upto_region 1 with fail
 rw [← hW0]
 clear hW0
 have a0 := HW0.out.cell 0 _ rfl
 have a1 := HW0.out.cell 1 _ rfl
 have a2 := HW0.out.cell 2 _ rfl
 have a3 := HW0.out.cell 3 _ rfl
 have a4 := HW0.out.cell 4 _ rfl
 go_wp2_with fail
 refine (H.out _ l HW0.out.sz HW0.out.new HW0.out.pr hl).mono ?_
 rintro e w1 ⟨rfl, P1, P2, P3⟩
 have HW1 := hid (HW0.out.said hbH hB0 P1.out P2.out P3.out)
 go_wp2_with fail
 go_end0
 exact HW1.out.fin rfl

theorem bd_15 (w0 : World) (B b : Nat) (p m : Int) (x : List UInt8) (va : Option Addr) (vl vc : Nat) (ts : List (List UInt8)) (hB0 : w0.heap.size ≤ B)
  (h : ∀ (w : World) (l : List (List UInt8)), B ≤ w.heap.size → Below w0.heap.size w0 w → PrAt B b l w → l.length + ts.length ≤ 900000 → Calls Tryz.prog 90 #[.pointer (some ⟨b, 0, none⟩), .agg #[.int .i64 15, .int .i64 p, .string ⟨x.toArray⟩, .int .i64 m, .slice va vl vc]] w fun e w' => PPost w B b (l ++ ts) e w') :
  BP w0 B b (.agg #[.int .i64 15, .int .i64 p, .string ⟨x.toArray⟩, .int .i64 m, .slice va vl vc]) ts := by
 intro w l hB hn hp hl
 have hbH : w.heap.size ≠ b := by have := pr_lt hp; omega
 have H := hid h
 obtain ⟨W0, hW0⟩ : ∃ W, W = w.alloc (.cells #[.int .i64 15, .int .i64 p, .string ⟨x.toArray⟩, .int .i64 m, .slice va vl vc] 24) := ⟨_, rfl⟩
 have HW0 : Hid (Pw w0 w W0 B b w.heap.size #[.int .i64 15, .int .i64 p, .string ⟨x.toArray⟩, .int .i64 m, .slice va vl vc] l) := by rw [hW0]; exact Pw.start _ hp hB hn
 clear h hp hn
 go_enter Tryz.func48, Tryz.ntmps48
 go_upto_region 1 with fail
 rw [← hW0]
 clear hW0
 have a0 := HW0.out.cell 0 _ rfl
 have a1 := HW0.out.cell 1 _ rfl
 have a2 := HW0.out.cell 2 _ rfl
 have a3 := HW0.out.cell 3 _ rfl
 have a4 := HW0.out.cell 4 _ rfl
 go_wp2_with fail
 refine (H.out _ l HW0.out.sz HW0.out.new HW0.out.pr hl).mono ?_
 rintro e w1 ⟨rfl, P1, P2, P3⟩
 have HW1 := hid (HW0.out.said hbH hB0 P1.out P2.out P3.out)
 go_wp2_with fail
 go_end0
 exact HW1.out.fin rfl

theorem bd_6 (w0 : World) (B b : Nat) (p m : Int) (x : List UInt8) (va : Option Addr) (vl vc : Nat) (ts : List (List UInt8)) (hB0 : w0.heap.size ≤ B)
  (h : ∀ (w : World) (l : List (List UInt8)), B ≤ w.heap.size → Below w0.heap.size w0 w → PrAt B b l w → l.length + ts.length ≤ 900000 → Calls Tryz.prog 90 #[.pointer (some ⟨b, 0, none⟩), .agg #[.int .i64 6, .int .i64 p, .string ⟨x.toArray⟩, .int .i64 m, .slice va vl vc]] w fun e w' => PPost w B b (l ++ ts) e w') :
  BP w0 B b (.agg #[.int .i64 6, .int .i64 p, .string ⟨x.toArray⟩, .int .i64 m, .slice va vl vc]) ts := by
 intro w l hB hn hp hl
 have hbH : w.heap.size ≠ b := by have := pr_lt hp; omega
 have H := hid h
 obtain ⟨W0, hW0⟩ : ∃ W, W = w.alloc (.cells #[.int .i64 6, .int .i64 p, .string ⟨x.toArray⟩, .int .i64 m, .slice va vl vc] 24) := ⟨_, rfl⟩
 have HW0 : Hid (Pw w0 w W0 B b w.heap.size #[.int .i64 6, .int .i64 p, .string ⟨x.toArray⟩, .int .i64 m, .slice va vl vc] l) := by rw [hW0]; exact Pw.start _ hp hB hn
 clear h hp hn
 go_enter Tryz.func48, Tryz.ntmps48
 go_upto_region 1 with fail
 rw [← hW0]
 clear hW0
 have a0 := HW0.out.cell 0 _ rfl
 have a1 := HW0.out.cell 1 _ rfl
 have a2 := HW0.out.cell 2 _ rfl
 have a3 := HW0.out.cell 3 _ rfl
 have a4 := HW0.out.cell 4 _ rfl
 go_wp2_with fail
 refine (H.out _ l HW0.out.sz HW0.out.new HW0.out.pr hl).mono ?_
 rintro e w1 ⟨rfl, P1, P2, P3⟩
 have HW1 := hid (HW0.out.said hbH hB0 P1.out P2.out P3.out)
 go_wp2_with fail
 go_end0
 exact HW1.out.fin rfl

theorem bd_23 (w0 : World) (B b : Nat) (p m : Int) (x : List UInt8) (va : Option Addr) (vl vc : Nat) (ts : List (List UInt8)) (hB0 : w0.heap.size ≤ B)
  (h : ∀ (w : World) (l : List (List UInt8)), B ≤ w.heap.size → Below w0.heap.size w0 w → PrAt B b l w → l.length + ts.length ≤ 900000 → Calls Tryz.prog 90 #[.pointer (some ⟨b, 0, none⟩), .agg #[.int .i64 23, .int .i64 p, .string ⟨x.toArray⟩, .int .i64 m, .slice va vl vc]] w fun e w' => PPost w B b (l ++ ts) e w') :
  BP w0 B b (.agg #[.int .i64 23, .int .i64 p, .string ⟨x.toArray⟩, .int .i64 m, .slice va vl vc]) ts := by
 intro w l hB hn hp hl
 have hbH : w.heap.size ≠ b := by have := pr_lt hp; omega
 have H := hid h
 obtain ⟨W0, hW0⟩ : ∃ W, W = w.alloc (.cells #[.int .i64 23, .int .i64 p, .string ⟨x.toArray⟩, .int .i64 m, .slice va vl vc] 24) := ⟨_, rfl⟩
 have HW0 : Hid (Pw w0 w W0 B b w.heap.size #[.int .i64 23, .int .i64 p, .string ⟨x.toArray⟩, .int .i64 m, .slice va vl vc] l) := by rw [hW0]; exact Pw.start _ hp hB hn
 clear h hp hn
 go_enter Tryz.func48, Tryz.ntmps48
 go_upto_region 1 with fail
 rw [← hW0]
 clear hW0
 have a0 := HW0.out.cell 0 _ rfl
 have a1 := HW0.out.cell 1 _ rfl
 have a2 := HW0.out.cell 2 _ rfl
 have a3 := HW0.out.cell 3 _ rfl
 have a4 := HW0.out.cell 4 _ rfl
 go_wp2_with fail
 refine (H.out _ l HW0.out.sz HW0.out.new HW0.out.pr hl).mono ?_
 rintro e w1 ⟨rfl, P1, P2, P3⟩
 have HW1 := hid (HW0.out.said hbH hB0 P1.out P2.out P3.out)
 go_wp2_with fail
 go_end0
 exact HW1.out.fin rfl

theorem bd_24 (w0 : World) (B b : Nat) (p m : Int) (x : List UInt8) (va : Option Addr) (vl vc : Nat) (ts : List (List UInt8)) (hB0 : w0.heap.size ≤ B)
  (h : ∀ (w : World) (l : List (List UInt8)), B ≤ w.heap.size → Below w0.heap.size w0 w → PrAt B b l w → l.length + ts.length ≤ 900000 → Calls Tryz.prog 90 #[.pointer (some ⟨b, 0, none⟩), .agg #[.int .i64 24, .int .i64 p, .string ⟨x.toArray⟩, .int .i64 m, .slice va vl vc]] w fun e w' => PPost w B b (l ++ ts) e w') :
  BP w0 B b (.agg #[.int .i64 24, .int .i64 p, .string ⟨x.toArray⟩, .int .i64 m, .slice va vl vc]) ts := by
 intro w l hB hn hp hl
 have hbH : w.heap.size ≠ b := by have := pr_lt hp; omega
 have H := hid h
 obtain ⟨W0, hW0⟩ : ∃ W, W = w.alloc (.cells #[.int .i64 24, .int .i64 p, .string ⟨x.toArray⟩, .int .i64 m, .slice va vl vc] 24) := ⟨_, rfl⟩
 have HW0 : Hid (Pw w0 w W0 B b w.heap.size #[.int .i64 24, .int .i64 p, .string ⟨x.toArray⟩, .int .i64 m, .slice va vl vc] l) := by rw [hW0]; exact Pw.start _ hp hB hn
 clear h hp hn
 go_enter Tryz.func48, Tryz.ntmps48
 go_upto_region 1 with fail
 rw [← hW0]
 clear hW0
 have a0 := HW0.out.cell 0 _ rfl
 have a1 := HW0.out.cell 1 _ rfl
 have a2 := HW0.out.cell 2 _ rfl
 have a3 := HW0.out.cell 3 _ rfl
 have a4 := HW0.out.cell 4 _ rfl
 go_wp2_with fail
 refine (H.out _ l HW0.out.sz HW0.out.new HW0.out.pr hl).mono ?_
 rintro e w1 ⟨rfl, P1, P2, P3⟩
 have HW1 := hid (HW0.out.said hbH hB0 P1.out P2.out P3.out)
 go_wp2_with fail
 go_end0
 exact HW1.out.fin rfl

theorem bd_25 (w0 : World) (B b : Nat) (p m : Int) (x : List UInt8) (va : Option Addr) (vl vc : Nat) (ts : List (List UInt8)) (hB0 : w0.heap.size ≤ B)
  (h : ∀ (w : World) (l : List (List UInt8)), B ≤ w.heap.size → Below w0.heap.size w0 w → PrAt B b l w → l.length + ts.length ≤ 900000 → Calls Tryz.prog 90 #[.pointer (some ⟨b, 0, none⟩), .agg #[.int .i64 25, .int .i64 p, .string ⟨x.toArray⟩, .int .i64 m, .slice va vl vc]] w fun e w' => PPost w B b (l ++ ts) e w') :
  BP w0 B b (.agg #[.int .i64 25, .int .i64 p, .string ⟨x.toArray⟩, .int .i64 m, .slice va vl vc]) ts := by
 intro w l hB hn hp hl
 have hbH : w.heap.size ≠ b := by have := pr_lt hp; omega
 have H := hid h
 obtain ⟨W0, hW0⟩ : ∃ W, W = w.alloc (.cells #[.int .i64 25, .int .i64 p, .string ⟨x.toArray⟩, .int .i64 m, .slice va vl vc] 24) := ⟨_, rfl⟩
 have HW0 : Hid (Pw w0 w W0 B b w.heap.size #[.int .i64 25, .int .i64 p, .string ⟨x.toArray⟩, .int .i64 m, .slice va vl vc] l) := by rw [hW0]; exact Pw.start _ hp hB hn
 clear h hp hn
 go_enter Tryz.func48, Tryz.ntmps48
 go_upto_region 1 with fail
 rw [← hW0]
 clear hW0
 have a0 := HW0.out.cell 0 _ rfl
 have a1 := HW0.out.cell 1 _ rfl
 have a2 := HW0.out.cell 2 _ rfl
 have a3 := HW0.out.cell 3 _ rfl
 have a4 := HW0.out.cell 4 _ rfl
 go_wp2_with fail
 refine (H.out _ l HW0.out.sz HW0.out.new HW0.out.pr hl).mono ?_
 rintro e w1 ⟨rfl, P1, P2, P3⟩
 have HW1 := hid (HW0.out.said hbH hB0 P1.out P2.out P3.out)
 go_wp2_with fail
 go_end0
 exact HW1.out.fin rfl

theorem bd_26 (w0 : World) (B b : Nat) (p m : Int) (x : List UInt8) (va : Option Addr) (vl vc : Nat) (ts : List (List UInt8)) (hB0 : w0.heap.size ≤ B)
  (h : ∀ (w : World) (l : List (List UInt8)), B ≤ w.heap.size → Below w0.heap.size w0 w → PrAt B b l w → l.length + ts.length ≤ 900000 → Calls Tryz.prog 90 #[.pointer (some ⟨b, 0, none⟩), .agg #[.int .i64 26, .int .i64 p, .string ⟨x.toArray⟩, .int .i64 m, .slice va vl vc]] w fun e w' => PPost w B b (l ++ ts) e w') :
  BP w0 B b (.agg #[.int .i64 26, .int .i64 p, .string ⟨x.toArray⟩, .int .i64 m, .slice va vl vc]) ts := by
 intro w l hB hn hp hl
 have hbH : w.heap.size ≠ b := by have := pr_lt hp; omega
 have H := hid h
 obtain ⟨W0, hW0⟩ : ∃ W, W = w.alloc (.cells #[.int .i64 26, .int .i64 p, .string ⟨x.toArray⟩, .int .i64 m, .slice va vl vc] 24) := ⟨_, rfl⟩
 have HW0 : Hid (Pw w0 w W0 B b w.heap.size #[.int .i64 26, .int .i64 p, .string ⟨x.toArray⟩, .int .i64 m, .slice va vl vc] l) := by rw [hW0]; exact Pw.start _ hp hB hn
 clear h hp hn
 go_enter Tryz.func48, Tryz.ntmps48
 go_upto_region 1 with fail
 rw [← hW0]
 clear hW0
 have a0 := HW0.out.cell 0 _ rfl
 have a1 := HW0.out.cell 1 _ rfl
 have a2 := HW0.out.cell 2 _ rfl
 have a3 := HW0.out.cell 3 _ rfl
 have a4 := HW0.out.cell 4 _ rfl
 go_wp2_with fail
 refine (H.out _ l HW0.out.sz HW0.out.new HW0.out.pr hl).mono ?_
 rintro e w1 ⟨rfl, P1, P2, P3⟩
 have HW1 := hid (HW0.out.said hbH hB0 P1.out P2.out P3.out)
 go_wp2_with fail
 go_end0
 exact HW1.out.fin rfl

theorem bd_10 (w0 : World) (B b : Nat) (p m : Int) (x : List UInt8) (va : Option Addr) (vl vc : Nat) (ts : List (List UInt8)) (hB0 : w0.heap.size ≤ B)
  (h : ∀ (w : World) (l : List (List UInt8)), B ≤ w.heap.size → Below w0.heap.size w0 w → PrAt B b l w → l.length + ts.length ≤ 900000 → Calls Tryz.prog 88 #[.pointer (some ⟨b, 0, none⟩), .agg #[.int .i64 10, .int .i64 p, .string ⟨x.toArray⟩, .int .i64 m, .slice va vl vc]] w fun e w' => PPost w B b (l ++ ts) e w') :
  BP w0 B b (.agg #[.int .i64 10, .int .i64 p, .string ⟨x.toArray⟩, .int .i64 m, .slice va vl vc]) ts := by
 intro w l hB hn hp hl
 have hbH : w.heap.size ≠ b := by have := pr_lt hp; omega
 have H := hid h
 obtain ⟨W0, hW0⟩ : ∃ W, W = w.alloc (.cells #[.int .i64 10, .int .i64 p, .string ⟨x.toArray⟩, .int .i64 m, .slice va vl vc] 24) := ⟨_, rfl⟩
 have HW0 : Hid (Pw w0 w W0 B b w.heap.size #[.int .i64 10, .int .i64 p, .string ⟨x.toArray⟩, .int .i64 m, .slice va vl vc] l) := by rw [hW0]; exact Pw.start _ hp hB hn
 clear h hp hn
 go_enter Tryz.func48, Tryz.ntmps48
 go_upto_region 1 with fail
 rw [← hW0]
 clear hW0
 have a0 := HW0.out.cell 0 _ rfl
 have a1 := HW0.out.cell 1 _ rfl
 have a2 := HW0.out.cell 2 _ rfl
 have a3 := HW0.out.cell 3 _ rfl
 have a4 := HW0.out.cell 4 _ rfl
 go_wp2_with fail
 refine (H.out _ l HW0.out.sz HW0.out.new HW0.out.pr hl).mono ?_
 rintro e w1 ⟨rfl, P1, P2, P3⟩
 have HW1 := hid (HW0.out.said hbH hB0 P1.out P2.out P3.out)
 go_wp2_with fail
 go_end0
 exact HW1.out.fin rfl

theorem bd_16 (w0 : World) (B b : Nat) (p m : Int) (x : List UInt8) (va : Option Addr) (vl vc : Nat) (ts : List (List UInt8)) (hB0 : w0.heap.size ≤ B)
  (h : ∀ (w : World) (l : List (List UInt8)), B ≤ w.heap.size → Below w0.heap.size w0 w → PrAt B b l w → l.length + ts.length ≤ 900000 → Calls Tryz.prog 88 #[.pointer (some ⟨b, 0, none⟩), .agg #[.int .i64 16, .int .i64 p, .string ⟨x.toArray⟩, .int .i64 m, .slice va vl vc]] w fun e w' => PPost w B b (l ++ ts) e w') :
  BP w0 B b (.agg #[.int .i64 16, .int .i64 p, .string ⟨x.toArray⟩, .int .i64 m, .slice va vl vc]) ts := by
 intro w l hB hn hp hl
 have hbH : w.heap.size ≠ b := by have := pr_lt hp; omega
 have H := hid h
 obtain ⟨W0, hW0⟩ : ∃ W, W = w.alloc (.cells #[.int .i64 16, .int .i64 p, .string ⟨x.toArray⟩, .int .i64 m, .slice va vl vc] 24) := ⟨_, rfl⟩
 have HW0 : Hid (Pw w0 w W0 B b w.heap.size #[.int .i64 16, .int .i64 p, .string ⟨x.toArray⟩, .int .i64 m, .slice va vl vc] l) := by rw [hW0]; exact Pw.start _ hp hB hn
 clear h hp hn
 go_enter Tryz.func48, Tryz.ntmps48
 go_upto_region 1 with fail
 rw [← hW0]
 clear hW0
 have a0 := HW0.out.cell 0 _ rfl
 have a1 := HW0.out.cell 1 _ rfl
 have a2 := HW0.out.cell 2 _ rfl
 have a3 := HW0.out.cell 3 _ rfl
 have a4 := HW0.out.cell 4 _ rfl
 go_wp2_with fail
 refine (H.out _ l HW0.out.sz HW0.out.new HW0.out.pr hl).mono ?_
 rintro e w1 ⟨rfl, P1, P2, P3⟩
 have HW1 := hid (HW0.out.said hbH hB0 P1.out P2.out P3.out)
 go_wp2_with fail
 go_end0
 exact HW1.out.fin rfl

theorem bd_18 (w0 : World) (B b : Nat) (p m : Int) (x : List UInt8) (va : Option Addr) (vl vc : Nat) (ts : List (List UInt8)) (hB0 : w0.heap.size ≤ B)
  (h : ∀ (w : World) (l : List (List UInt8)), B ≤ w.heap.size → Below w0.heap.size w0 w → PrAt B b l w → l.length + ts.length ≤ 900000 → Calls Tryz.prog 88 #[.pointer (some ⟨b, 0, none⟩), .agg #[.int .i64 18, .int .i64 p, .string ⟨x.toArray⟩, .int .i64 m, .slice va vl vc]] w fun e w' => PPost w B b (l ++ ts) e w') :
  BP w0 B b (.agg #[.int .i64 18, .int .i64 p, .string ⟨x.toArray⟩, .int .i64 m, .slice va vl vc]) ts := by
 intro w l hB hn hp hl
 have hbH : w.heap.size ≠ b := by have := pr_lt hp; omega
 have H := hid h
 obtain ⟨W0, hW0⟩ : ∃ W, W = w.alloc (.cells #[.int .i64 18, .int .i64 p, .string ⟨x.toArray⟩, .int .i64 m, .slice va vl vc] 24) := ⟨_, rfl⟩
 have HW0 : Hid (Pw w0 w W0 B b w.heap.size #[.int .i64 18, .int .i64 p, .string ⟨x.toArray⟩, .int .i64 m, .slice va vl vc] l) := by rw [hW0]; exact Pw.start _ hp hB hn
 clear h hp hn
 go_enter Tryz.func48, Tryz.ntmps48
 go_upto_region 1 with fail
 rw [← hW0]
 clear hW0
 have a0 := HW0.out.cell 0 _ rfl
 have a1 := HW0.out.cell 1 _ rfl
 have a2 := HW0.out.cell 2 _ rfl
 have a3 := HW0.out.cell 3 _ rfl
 have a4 := HW0.out.cell 4 _ rfl
 go_wp2_with fail
 refine (H.out _ l HW0.out.sz HW0.out.new HW0.out.pr hl).mono ?_
 rintro e w1 ⟨rfl, P1, P2, P3⟩
 have HW1 := hid (HW0.out.said hbH hB0 P1.out P2.out P3.out)
 go_wp2_with fail
 go_end0
 exact HW1.out.fin rfl

theorem bd_29 (w0 : World) (B b : Nat) (p m : Int) (x : List UInt8) (va : Option Addr) (vl vc : Nat) (ts : List (List UInt8)) (hB0 : w0.heap.size ≤ B)
  (h : ∀ (w : World) (l : List (List UInt8)), B ≤ w.heap.size → Below w0.heap.size w0 w → PrAt B b l w → l.length + ts.length ≤ 900000 → Calls Tryz.prog 88 #[.pointer (some ⟨b, 0, none⟩), .agg #[.int .i64 29, .int .i64 p, .string ⟨x.toArray⟩, .int .i64 m, .slice va vl vc]] w fun e w' => PPost w B b (l ++ ts) e w') :
  BP w0 B b (.agg #[.int .i64 29, .int .i64 p, .string ⟨x.toArray⟩, .int .i64 m, .slice va vl vc]) ts := by
 intro w l hB hn hp hl
 have hbH : w.heap.size ≠ b := by have := pr_lt hp; omega
 have H := hid h
 obtain ⟨W0, hW0⟩ : ∃ W, W = w.alloc (.cells #[.int .i64 29, .int .i64 p, .string ⟨x.toArray⟩, .int .i64 m, .slice va vl vc] 24) := ⟨_, rfl⟩
 have HW0 : Hid (Pw w0 w W0 B b w.heap.size #[.int .i64 29, .int .i64 p, .string ⟨x.toArray⟩, .int .i64 m, .slice va vl vc] l) := by rw [hW0]; exact Pw.start _ hp hB hn
 clear h hp hn
 go_enter Tryz.func48, Tryz.ntmps48
 go_upto_region 1 with fail
 rw [← hW0]
 clear hW0
 have a0 := HW0.out.cell 0 _ rfl
 have a1 := HW0.out.cell 1 _ rfl
 have a2 := HW0.out.cell 2 _ rfl
 have a3 := HW0.out.cell 3 _ rfl
 have a4 := HW0.out.cell 4 _ rfl
 go_wp2_with fail
 refine (H.out _ l HW0.out.sz HW0.out.new HW0.out.pr hl).mono ?_
 rintro e w1 ⟨rfl, P1, P2, P3⟩
 have HW1 := hid (HW0.out.said hbH hB0 P1.out P2.out P3.out)
 go_wp2_with fail
 go_end0
 exact HW1.out.fin rfl

theorem bd_28 (w0 : World) (B b : Nat) (p m : Int) (x : List UInt8) (va : Option Addr) (vl vc : Nat) (ts : List (List UInt8)) (hB0 : w0.heap.size ≤ B)
  (h : ∀ (w : World) (l : List (List UInt8)), B ≤ w.heap.size → Below w0.heap.size w0 w → PrAt B b l w → l.length + ts.length ≤ 900000 → Calls Tryz.prog 88 #[.pointer (some ⟨b, 0, none⟩), .agg #[.int .i64 28, .int .i64 p, .string ⟨x.toArray⟩, .int .i64 m, .slice va vl vc]] w fun e w' => PPost w B b (l ++ ts) e w') :
  BP w0 B b (.agg #[.int .i64 28, .int .i64 p, .string ⟨x.toArray⟩, .int .i64 m, .slice va vl vc]) ts := by
 intro w l hB hn hp hl
 have hbH : w.heap.size ≠ b := by have := pr_lt hp; omega
 have H := hid h
 obtain ⟨W0, hW0⟩ : ∃ W, W = w.alloc (.cells #[.int .i64 28, .int .i64 p, .string ⟨x.toArray⟩, .int .i64 m, .slice va vl vc] 24) := ⟨_, rfl⟩
 have HW0 : Hid (Pw w0 w W0 B b w.heap.size #[.int .i64 28, .int .i64 p, .string ⟨x.toArray⟩, .int .i64 m, .slice va vl vc] l) := by rw [hW0]; exact Pw.start _ hp hB hn
 clear h hp hn
 go_enter Tryz.func48, Tryz.ntmps48
 go_upto_region 1 with fail
 rw [← hW0]
 clear hW0
 have a0 := HW0.out.cell 0 _ rfl
 have a1 := HW0.out.cell 1 _ rfl
 have a2 := HW0.out.cell 2 _ rfl
 have a3 := HW0.out.cell 3 _ rfl
 have a4 := HW0.out.cell 4 _ rfl
 go_wp2_with fail
 refine (H.out _ l HW0.out.sz HW0.out.new HW0.out.pr hl).mono ?_
 rintro e w1 ⟨rfl, P1, P2, P3⟩
 have HW1 := hid (HW0.out.said hbH hB0 P1.out P2.out P3.out)
 go_wp2_with fail
 go_end0
 exact HW1.out.fin rfl

theorem bd_8 (w0 : World) (B b : Nat) (p m : Int) (x : List UInt8) (va : Option Addr) (vl vc : Nat) (ts : List (List UInt8)) (hB0 : w0.heap.size ≤ B)
  (h : ∀ (w : World) (l : List (List UInt8)), B ≤ w.heap.size → Below w0.heap.size w0 w → PrAt B b l w → l.length + ts.length ≤ 900000 → Calls Tryz.prog 89 #[.pointer (some ⟨b, 0, none⟩), .agg #[.int .i64 8, .int .i64 p, .string ⟨x.toArray⟩, .int .i64 m, .slice va vl vc]] w fun e w' => PPost w B b (l ++ ts) e w') :
  BP w0 B b (.agg #[.int .i64 8, .int .i64 p, .string ⟨x.toArray⟩, .int .i64 m, .slice va vl vc]) ts := by
 intro w l hB hn hp hl
 have hbH : w.heap.size ≠ b := by have := pr_lt hp; omega
 have H := hid h
 obtain ⟨W0, hW0⟩ : ∃ W, W = w.alloc (.cells #[.int .i64 8, .int .i64 p, .string ⟨x.toArray⟩, .int .i64 m, .slice va vl vc] 24) := ⟨_, rfl⟩
 have HW0 : Hid (Pw w0 w W0 B b w.heap.size #[.int .i64 8, .int .i64 p, .string ⟨x.toArray⟩, .int .i64 m, .slice va vl vc] l) := by rw [hW0]; exact Pw.start _ hp hB hn
 clear h hp hn
 go_enter Tryz.func48, Tryz.ntmps48
 go_upto_region 1 with fail
 rw [← hW0]
 clear hW0
 have a0 := HW0.out.cell 0 _ rfl
 have a1 := HW0.out.cell 1 _ rfl
 have a2 := HW0.out.cell 2 _ rfl
 have a3 := HW0.out.cell 3 _ rfl
 have a4 := HW0.out.cell 4 _ rfl
 go_wp2_with fail
 refine (H.out _ l HW0.out.sz HW0.out.new HW0.out.pr hl).mono ?_
 rintro e w1 ⟨rfl, P1, P2, P3⟩
 have HW1 := hid (HW0.out.said hbH hB0 P1.out P2.out P3.out)
 go_wp2_with fail
 go_end0
 exact HW1.out.fin rfl

theorem bd_19 (w0 : World) (B b : Nat) (p m : Int) (x : List UInt8) (va : Option Addr) (vl vc : Nat) (ts : List (List UInt8)) (hB0 : w0.heap.size ≤ B)
  (h : ∀ (w : World) (l : List (List UInt8)), B ≤ w.heap.size → Below w0.heap.size w0 w → PrAt B b l w → l.length + ts.length ≤ 900000 → Calls Tryz.prog 89 #[.pointer (some ⟨b, 0, none⟩), .agg #[.int .i64 19, .int .i64 p, .string ⟨x.toArray⟩, .int .i64 m, .slice va vl vc]] w fun e w' => PPost w B b (l ++ ts) e w') :
  BP w0 B b (.agg #[.int .i64 19, .int .i64 p, .string ⟨x.toArray⟩, .int .i64 m, .slice va vl vc]) ts := by
 intro w l hB hn hp hl
 have hbH : w.heap.size ≠ b := by have := pr_lt hp; omega
 have H := hid h
 obtain ⟨W0, hW0⟩ : ∃ W, W = w.alloc (.cells #[.int .i64 19, .int .i64 p, .string ⟨x.toArray⟩, .int .i64 m, .slice va vl vc] 24) := ⟨_, rfl⟩
 have HW0 : Hid (Pw w0 w W0 B b w.heap.size #[.int .i64 19, .int .i64 p, .string ⟨x.toArray⟩, .int .i64 m, .slice va vl vc] l) := by rw [hW0]; exact Pw.start _ hp hB hn
 clear h hp hn
 go_enter Tryz.func48, Tryz.ntmps48
 go_upto_region 1 with fail
 rw [← hW0]
 clear hW0
 have a0 := HW0.out.cell 0 _ rfl
 have a1 := HW0.out.cell 1 _ rfl
 have a2 := HW0.out.cell 2 _ rfl
 have a3 := HW0.out.cell 3 _ rfl
 have a4 := HW0.out.cell 4 _ rfl
 go_wp2_with fail
 refine (H.out _ l HW0.out.sz HW0.out.new HW0.out.pr hl).mono ?_
 rintro e w1 ⟨rfl, P1, P2, P3⟩
 have HW1 := hid (HW0.out.said hbH hB0 P1.out P2.out P3.out)
 go_wp2_with fail
 go_end0
 exact HW1.out.fin rfl

theorem bd_13 (w0 : World) (B b : Nat) (p m : Int) (x : List UInt8) (va : Option Addr) (vl vc : Nat) (ts : List (List UInt8)) (hB0 : w0.heap.size ≤ B)
  (h : ∀ (w : World) (l : List (List UInt8)), B ≤ w.heap.size → Below w0.heap.size w0 w → PrAt B b l w → l.length + ts.length ≤ 900000 → Calls Tryz.prog 89 #[.pointer (some ⟨b, 0, none⟩), .agg #[.int .i64 13, .int .i64 p, .string ⟨x.toArray⟩, .int .i64 m, .slice va vl vc]] w fun e w' => PPost w B b (l ++ ts) e w') :
  BP w0 B b (.agg #[.int .i64 13, .int .i64 p, .string ⟨x.toArray⟩, .int .i64 m, .slice va vl vc]) ts := by
 intro w l hB hn hp hl
 have hbH : w.heap.size ≠ b := by have := pr_lt hp; omega
 have H := hid h
 obtain ⟨W0, hW0⟩ : ∃ W, W = w.alloc (.cells #[.int .i64 13, .int .i64 p, .string ⟨x.toArray⟩, .int .i64 m, .slice va vl vc] 24) := ⟨_, rfl⟩
 have HW0 : Hid (Pw w0 w W0 B b w.heap.size #[.int .i64 13, .int .i64 p, .string ⟨x.toArray⟩, .int .i64 m, .slice va vl vc] l) := by rw [hW0]; exact Pw.start _ hp hB hn
 clear h hp hn
 go_enter Tryz.func48, Tryz.ntmps48
 go_upto_region 1 with fail
 rw [← hW0]
 clear hW0
 have a0 := HW0.out.cell 0 _ rfl
 have a1 := HW0.out.cell 1 _ rfl
 have a2 := HW0.out.cell 2 _ rfl
 have a3 := HW0.out.cell 3 _ rfl
 have a4 := HW0.out.cell 4 _ rfl
 go_wp2_with fail
 refine (H.out _ l HW0.out.sz HW0.out.new HW0.out.pr hl).mono ?_
 rintro e w1 ⟨rfl, P1, P2, P3⟩
 have HW1 := hid (HW0.out.said hbH hB0 P1.out P2.out P3.out)
 go_wp2_with fail
 go_end0
 exact HW1.out.fin rfl

theorem bd_14 (w0 : World) (B b : Nat) (p m : Int) (x : List UInt8) (va : Option Addr) (vl vc : Nat) (ts : List (List UInt8)) (hB0 : w0.heap.size ≤ B)
  (h : ∀ (w : World) (l : List (List UInt8)), B ≤ w.heap.size → Below w0.heap.size w0 w → PrAt B b l w → l.length + ts.length ≤ 900000 → Calls Tryz.prog 89 #[.pointer (some ⟨b, 0, none⟩), .agg #[.int .i64 14, .int .i64 p, .string ⟨x.toArray⟩, .int .i64 m, .slice va vl vc]] w fun e w' => PPost w B b (l ++ ts) e w') :
  BP w0 B b (.agg #[.int .i64 14, .int .i64 p, .string ⟨x.toArray⟩, .int .i64 m, .slice va vl vc]) ts := by
 intro w l hB hn hp hl
 have hbH : w.heap.size ≠ b := by have := pr_lt hp; omega
 have H := hid h
 obtain ⟨W0, hW0⟩ : ∃ W, W = w.alloc (.cells #[.int .i64 14, .int .i64 p, .string ⟨x.toArray⟩, .int .i64 m, .slice va vl vc] 24) := ⟨_, rfl⟩
 have HW0 : Hid (Pw w0 w W0 B b w.heap.size #[.int .i64 14, .int .i64 p, .string ⟨x.toArray⟩, .int .i64 m, .slice va vl vc] l) := by rw [hW0]; exact Pw.start _ hp hB hn
 clear h hp hn
 go_enter Tryz.func48, Tryz.ntmps48
 go_upto_region 1 with fail
 rw [← hW0]
 clear hW0
 have a0 := HW0.out.cell 0 _ rfl
 have a1 := HW0.out.cell 1 _ rfl
 have a2 := HW0.out.cell 2 _ rfl
 have a3 := HW0.out.cell 3 _ rfl
 have a4 := HW0.out.cell 4 _ rfl
 go_wp2_with fail
 refine (H.out _ l HW0.out.sz HW0.out.new HW0.out.pr hl).mono ?_
 rintro e w1 ⟨rfl, P1, P2, P3⟩
 have HW1 := hid (HW0.out.said hbH hB0 P1.out P2.out P3.out)
 go_wp2_with fail
 go_end0
 exact HW1.out.fin rfl

theorem bd_27 (w0 : World) (B b : Nat) (p m : Int) (x : List UInt8) (va : Option Addr) (vl vc : Nat) (ts : List (List UInt8)) (hB0 : w0.heap.size ≤ B)
  (h : ∀ (w : World) (l : List (List UInt8)), B ≤ w.heap.size → Below w0.heap.size w0 w → PrAt B b l w → l.length + ts.length ≤ 900000 → Calls Tryz.prog 89 #[.pointer (some ⟨b, 0, none⟩), .agg #[.int .i64 27, .int .i64 p, .string ⟨x.toArray⟩, .int .i64 m, .slice va vl vc]] w fun e w' => PPost w B b (l ++ ts) e w') :
  BP w0 B b (.agg #[.int .i64 27, .int .i64 p, .string ⟨x.toArray⟩, .int .i64 m, .slice va vl vc]) ts := by
 intro w l hB hn hp hl
 have hbH : w.heap.size ≠ b := by have := pr_lt hp; omega
 have H := hid h
 obtain ⟨W0, hW0⟩ : ∃ W, W = w.alloc (.cells #[.int .i64 27, .int .i64 p, .string ⟨x.toArray⟩, .int .i64 m, .slice va vl vc] 24) := ⟨_, rfl⟩
 have HW0 : Hid (Pw w0 w W0 B b w.heap.size #[.int .i64 27, .int .i64 p, .string ⟨x.toArray⟩, .int .i64 m, .slice va vl vc] l) := by rw [hW0]; exact Pw.start _ hp hB hn
 clear h hp hn
 go_enter Tryz.func48, Tryz.ntmps48
 go_upto_region 1 with fail
 rw [← hW0]
 clear hW0
 have a0 := HW0.out.cell 0 _ rfl
 have a1 := HW0.out.cell 1 _ rfl
 have a2 := HW0.out.cell 2 _ rfl
 have a3 := HW0.out.cell 3 _ rfl
 have a4 := HW0.out.cell 4 _ rfl
 go_wp2_with fail
 refine (H.out _ l HW0.out.sz HW0.out.new HW0.out.pr hl).mono ?_
 rintro e w1 ⟨rfl, P1, P2, P3⟩
 have HW1 := hid (HW0.out.said hbH hB0 P1.out P2.out P3.out)
 go_wp2_with fail
 go_end0
 exact HW1.out.fin rfl

theorem bd_17 (w0 : World) (B b : Nat) (p m : Int) (x : List UInt8) (va : Option Addr) (vl vc : Nat) (ts : List (List UInt8)) (hB0 : w0.heap.size ≤ B)
  (h : ∀ (w : World) (l : List (List UInt8)), B ≤ w.heap.size → Below w0.heap.size w0 w → PrAt B b l w → l.length + ts.length ≤ 900000 → Calls Tryz.prog 86 #[.pointer (some ⟨b, 0, none⟩), .agg #[.int .i64 17, .int .i64 p, .string ⟨x.toArray⟩, .int .i64 m, .slice va vl vc]] w fun e w' => PPost w B b (l ++ ts) e w') :
  BP w0 B b (.agg #[.int .i64 17, .int .i64 p, .string ⟨x.toArray⟩, .int .i64 m, .slice va vl vc]) ts := by
 intro w l hB hn hp hl
 have hbH : w.heap.size ≠ b := by have := pr_lt hp; omega
 have H := hid h
 obtain ⟨W0, hW0⟩ : ∃ W, W = w.alloc (.cells #[.int .i64 17, .int .i64 p, .string ⟨x.toArray⟩, .int .i64 m, .slice va vl vc] 24) := ⟨_, rfl⟩
 have HW0 : Hid (Pw w0 w W0 B b w.heap.size #[.int .i64 17, .int .i64 p, .string ⟨x.toArray⟩, .int .i64 m, .slice va vl vc] l) := by rw [hW0]; exact Pw.start _ hp hB hn
 clear h hp hn
 go_enter Tryz.func48, Tryz.ntmps48
 go_upto_region 1 with fail
 rw [← hW0]
 clear hW0
 have a0 := HW0.out.cell 0 _ rfl
 have a1 := HW0.out.cell 1 _ rfl
 have a2 := HW0.out.cell 2 _ rfl
 have a3 := HW0.out.cell 3 _ rfl
 have a4 := HW0.out.cell 4 _ rfl
 go_wp2_with fail
 refine (H.out _ l HW0.out.sz HW0.out.new HW0.out.pr hl).mono ?_
 rintro e w1 ⟨rfl, P1, P2, P3⟩
 have HW1 := hid (HW0.out.said hbH hB0 P1.out P2.out P3.out)
 go_wp2_with fail
 go_end0
 exact HW1.out.fin rfl

theorem bd_20 (w0 : World) (B b : Nat) (p m : Int) (x : List UInt8) (va : Option Addr) (vl vc : Nat) (ts : List (List UInt8)) (hB0 : w0.heap.size ≤ B)
  (h : ∀ (w : World) (l : List (List UInt8)), B ≤ w.heap.size → Below w0.heap.size w0 w → PrAt B b l w → l.length + ts.length ≤ 900000 → Calls Tryz.prog 87 #[.pointer (some ⟨b, 0, none⟩), .agg #[.int .i64 20, .int .i64 p, .string ⟨x.toArray⟩, .int .i64 m, .slice va vl vc]] w fun e w' => PPost w B b (l ++ ts) e w') :
  BP w0 B b (.agg #[.int .i64 20, .int .i64 p, .string ⟨x.toArray⟩, .int .i64 m, .slice va vl vc]) ts := by
 intro w l hB hn hp hl
 have hbH : w.heap.size ≠ b := by have := pr_lt hp; omega
 have H := hid h
 obtain ⟨W0, hW0⟩ : ∃ W, W = w.alloc (.cells #[.int .i64 20, .int .i64 p, .string ⟨x.toArray⟩, .int .i64 m, .slice va vl vc] 24) := ⟨_, rfl⟩
 have HW0 : Hid (Pw w0 w W0 B b w.heap.size #[.int .i64 20, .int .i64 p, .string ⟨x.toArray⟩, .int .i64 m, .slice va vl vc] l) := by rw [hW0]; exact Pw.start _ hp hB hn
 clear h hp hn
 go_enter Tryz.func48, Tryz.ntmps48
 go_upto_region 1 with fail
 rw [← hW0]
 clear hW0
 have a0 := HW0.out.cell 0 _ rfl
 have a1 := HW0.out.cell 1 _ rfl
 have a2 := HW0.out.cell 2 _ rfl
 have a3 := HW0.out.cell 3 _ rfl
 have a4 := HW0.out.cell 4 _ rfl
 go_wp2_with fail
 refine (H.out _ l HW0.out.sz HW0.out.new HW0.out.pr hl).mono ?_
 rintro e w1 ⟨rfl, P1, P2, P3⟩
 have HW1 := hid (HW0.out.said hbH hB0 P1.out P2.out P3.out)
 go_wp2_with fail
 go_end0
 exact HW1.out.fin rfl

theorem bd_0 (w0 : World) (B b : Nat) (p m : Int) (x : List UInt8) (va : Option Addr) (vl vc : Nat) (ts : List (List UInt8)) (hB0 : w0.heap.size ≤ B)
  (h : ∀ (w : World) (l : List (List UInt8)), B ≤ w.heap.size → Below w0.heap.size w0 w → PrAt B b l w → l.length + ts.length ≤ 900000 → Calls Tryz.prog 82 #[.pointer (some ⟨b, 0, none⟩), .agg #[.int .i64 0, .int .i64 p, .string ⟨x.toArray⟩, .int .i64 m, .slice va vl vc]] w fun e w' => PPost w B b (l ++ ts) e w') :
  BP w0 B b (.agg #[.int .i64 0, .int .i64 p, .string ⟨x.toArray⟩, .int .i64 m, .slice va vl vc]) ts := by
 intro w l hB hn hp hl
 have hbH : w.heap.size ≠ b := by have := pr_lt hp; omega
 have H := hid h
 obtain ⟨W0, hW0⟩ : ∃ W, W = w.alloc (.cells #[.int .i64 0, .int .i64 p, .string ⟨x.toArray⟩, .int .i64 m, .slice va vl vc] 24) := ⟨_, rfl⟩
 have HW0 : Hid (Pw w0 w W0 B b w.heap.size #[.int .i64 0, .int .i64 p, .string ⟨x.toArray⟩, .int .i64 m, .slice va vl vc] l) := by rw [hW0]; exact Pw.start _ hp hB hn
 clear h hp hn
 go_enter Tryz.func48, Tryz.ntmps48
 go_upto_region 1 with fail
 rw [← hW0]
 clear hW0
 have a0 := HW0.out.cell 0 _ rfl
 have a1 := HW0.out.cell 1 _ rfl
 have a2 := HW0.out.cell 2 _ rfl
 have a3 := HW0.out.cell 3 _ rfl
 have a4 := HW0.out.cell 4 _ rfl
 go_wp2_with fail
 refine (H.out _ l HW0.out.sz HW0.out.new HW0.out.pr hl).mono ?_
 rintro e w1 ⟨rfl, P1, P2, P3⟩
 have HW1 := hid (HW0.out.said hbH hB0 P1.out P2.out P3.out)
 go_wp2_with fail
 go_end0
 exact HW1.out.fin rfl

theorem bd_1 (w0 : World) (B b : Nat) (p m : Int) (x : List UInt8) (va : Option Addr) (vl vc : Nat) (ts : List (List UInt8)) (hB0 : w0.heap.size ≤ B)
  (h : ∀ (w : World) (l : List (List UInt8)), B ≤ w.heap.size → Below w0.heap.size w0 w → PrAt B b l w → l.length + ts.length ≤ 900000 → Calls Tryz.prog 83 #[.pointer (some ⟨b, 0, none⟩), .agg #[.int .i64 1, .int .i64 p, .string ⟨x.toArray⟩, .int .i64 m, .slice va vl vc]] w fun e w' => PPost w B b (l ++ ts) e w') :
  BP w0 B b (.agg #[.int .i64 1, .int .i64 p, .string ⟨x.toArray⟩, .int .i64 m, .slice va vl vc]) ts := by
 intro w l hB hn hp hl
 have hbH : w.heap.size ≠ b := by have := pr_lt hp; omega
 have H := hid h
 obtain ⟨W0, hW0⟩ : ∃ W, W = w.alloc (.cells #[.int .i64 1, .int .i64 p, .string ⟨x.toArray⟩, .int .i64 m, .slice va vl vc] 24) := ⟨_, rfl⟩
 have HW0 : Hid (Pw w0 w W0 B b w.heap.size #[.int .i64 1, .int .i64 p, .string ⟨x.toArray⟩, .int .i64 m, .slice va vl vc] l) := by rw [hW0]; exact Pw.start _ hp hB hn
 clear h hp hn
 go_enter Tryz.func48, Tryz.ntmps48
 go_upto_region 1 with fail
 rw [← hW0]
 clear hW0
 have a0 := HW0.out.cell 0 _ rfl
 have a1 := HW0.out.cell 1 _ rfl
 have a2 := HW0.out.cell 2 _ rfl
 have a3 := HW0.out.cell 3 _ rfl
 have a4 := HW0.out.cell 4 _ rfl
 go_wp2_with fail
 refine (H.out _ l HW0.out.sz HW0.out.new HW0.out.pr hl).mono ?_
 rintro e w1 ⟨rfl, P1, P2, P3⟩
 have HW1 := hid (HW0.out.said hbH hB0 P1.out P2.out P3.out)
 go_wp2_with fail
 go_end0
 exact HW1.out.fin rfl
end Go.Proofs.YtoajnlhegallpaaGreatDoor
