/-
  Which trees may be walked: a node has the kids that its kind asks for.
-/
import Derived.Test.YtoajnlhegallpaaGreatDoorMWr
set_option linter.unusedVariables false
set_option linter.unusedSimpArgs false
set_option maxRecDepth 100000
set_option maxHeartbeats 4000000
namespace Go.Proofs.YtoajnlhegallpaaGreatDoor
open Go.RowKit
open Sy (Tr)

def HKP (w0 : World) (v : Value) : Prop := ∀ (w : World), Below w0.heap.size w0 w → Calls Tryz.prog 80 #[v] w fun e w' => e = .returned (.bool true) ∧ Hid (Below w.heap.size w w')

theorem hk_3 (w0 : World) (p m : Int) (x : List UInt8) (sa : Option Addr) (c : Nat) : HKP w0 (.agg #[.int .i64 3, .int .i64 p, .string ⟨x.toArray⟩, .int .i64 m, .slice sa 0 c]) := by
 intro w hn
 go_enter Tryz.func80, Tryz.ntmps80
 go_wp2_with fail
 go_ret
 exact ⟨rfl, (Below.refl _ _).alloc (Nat.le_refl _) _⟩

theorem hk_4 (w0 : World) (p m : Int) (x : List UInt8) (sa : Option Addr) (c : Nat) : HKP w0 (.agg #[.int .i64 4, .int .i64 p, .string ⟨x.toArray⟩, .int .i64 m, .slice sa 0 c]) := by
 intro w hn
 go_enter Tryz.func80, Tryz.ntmps80
 go_wp2_with fail
 go_ret
 exact ⟨rfl, (Below.refl _ _).alloc (Nat.le_refl _) _⟩

theorem hk_5 (w0 : World) (p m : Int) (x : List UInt8) (sa : Option Addr) (c : Nat) : HKP w0 (.agg #[.int .i64 5, .int .i64 p, .string ⟨x.toArray⟩, .int .i64 m, .slice sa 0 c]) := by
 intro w hn
 go_enter Tryz.func80, Tryz.ntmps80
 go_wp2_with fail
 go_ret
 exact ⟨rfl, (Below.refl _ _).alloc (Nat.le_refl _) _⟩

theorem hk_6 (w0 : World) (p m : Int) (x : List UInt8) (sa : Option Addr) (c : Nat) : HKP w0 (.agg #[.int .i64 6, .int .i64 p, .string ⟨x.toArray⟩, .int .i64 m, .slice sa 0 c]) := by
 intro w hn
 go_enter Tryz.func80, Tryz.ntmps80
 go_wp2_with fail
 go_ret
 exact ⟨rfl, (Below.refl _ _).alloc (Nat.le_refl _) _⟩

theorem hk_15 (w0 : World) (p m : Int) (x : List UInt8) (sa : Option Addr) (c : Nat) : HKP w0 (.agg #[.int .i64 15, .int .i64 p, .string ⟨x.toArray⟩, .int .i64 m, .slice sa 0 c]) := by
 intro w hn
 go_enter Tryz.func80, Tryz.ntmps80
 go_wp2_with fail
 go_ret
 exact ⟨rfl, (Below.refl _ _).alloc (Nat.le_refl _) _⟩

theorem hk_23 (w0 : World) (p m : Int) (x : List UInt8) (sa : Option Addr) (c : Nat) : HKP w0 (.agg #[.int .i64 23, .int .i64 p, .string ⟨x.toArray⟩, .int .i64 m, .slice sa 0 c]) := by
 intro w hn
 go_enter Tryz.func80, Tryz.ntmps80
 go_wp2_with fail
 go_ret
 exact ⟨rfl, (Below.refl _ _).alloc (Nat.le_refl _) _⟩

theorem hk_24 (w0 : World) (p m : Int) (x : List UInt8) (sa : Option Addr) (c : Nat) : HKP w0 (.agg #[.int .i64 24, .int .i64 p, .string ⟨x.toArray⟩, .int .i64 m, .slice sa 0 c]) := by
 intro w hn
 go_enter Tryz.func80, Tryz.ntmps80
 go_wp2_with fail
 go_ret
 exact ⟨rfl, (Below.refl _ _).alloc (Nat.le_refl _) _⟩

theorem hk_25 (w0 : World) (p m : Int) (x : List UInt8) (sa : Option Addr) (c : Nat) : HKP w0 (.agg #[.int .i64 25, .int .i64 p, .string ⟨x.toArray⟩, .int .i64 m, .slice sa 0 c]) := by
 intro w hn
 go_enter Tryz.func80, Tryz.ntmps80
 go_wp2_with fail
 go_ret
 exact ⟨rfl, (Below.refl _ _).alloc (Nat.le_refl _) _⟩

theorem hk_26 (w0 : World) (p m : Int) (x : List UInt8) (sa : Option Addr) (c : Nat) : HKP w0 (.agg #[.int .i64 26, .int .i64 p, .string ⟨x.toArray⟩, .int .i64 m, .slice sa 0 c]) := by
 intro w hn
 go_enter Tryz.func80, Tryz.ntmps80
 go_wp2_with fail
 go_ret
 exact ⟨rfl, (Below.refl _ _).alloc (Nat.le_refl _) _⟩

theorem hk_7 (w0 : World) (p m : Int) (x : List UInt8) (sa : Option Addr) (c : Nat) : HKP w0 (.agg #[.int .i64 7, .int .i64 p, .string ⟨x.toArray⟩, .int .i64 m, .slice sa 1 c]) := by
 intro w hn
 go_enter Tryz.func80, Tryz.ntmps80
 go_wp2_with fail
 go_ret
 exact ⟨rfl, (Below.refl _ _).alloc (Nat.le_refl _) _⟩

theorem hk_13 (w0 : World) (p m : Int) (x : List UInt8) (sa : Option Addr) (c : Nat) : HKP w0 (.agg #[.int .i64 13, .int .i64 p, .string ⟨x.toArray⟩, .int .i64 m, .slice sa 1 c]) := by
 intro w hn
 go_enter Tryz.func80, Tryz.ntmps80
 go_wp2_with fail
 go_ret
 exact ⟨rfl, (Below.refl _ _).alloc (Nat.le_refl _) _⟩

theorem hk_14 (w0 : World) (p m : Int) (x : List UInt8) (sa : Option Addr) (c : Nat) : HKP w0 (.agg #[.int .i64 14, .int .i64 p, .string ⟨x.toArray⟩, .int .i64 m, .slice sa 1 c]) := by
 intro w hn
 go_enter Tryz.func80, Tryz.ntmps80
 go_wp2_with fail
 go_ret
 exact ⟨rfl, (Below.refl _ _).alloc (Nat.le_refl _) _⟩

theorem hk_19 (w0 : World) (p m : Int) (x : List UInt8) (sa : Option Addr) (c : Nat) : HKP w0 (.agg #[.int .i64 19, .int .i64 p, .string ⟨x.toArray⟩, .int .i64 m, .slice sa 1 c]) := by
 intro w hn
 go_enter Tryz.func80, Tryz.ntmps80
 go_wp2_with fail
 go_ret
 exact ⟨rfl, (Below.refl _ _).alloc (Nat.le_refl _) _⟩

theorem hk_21 (w0 : World) (p m : Int) (x : List UInt8) (sa : Option Addr) (c : Nat) : HKP w0 (.agg #[.int .i64 21, .int .i64 p, .string ⟨x.toArray⟩, .int .i64 m, .slice sa 1 c]) := by
 intro w hn
 go_enter Tryz.func80, Tryz.ntmps80
 go_wp2_with fail
 go_ret
 exact ⟨rfl, (Below.refl _ _).alloc (Nat.le_refl _) _⟩

theorem hk_27 (w0 : World) (p m : Int) (x : List UInt8) (sa : Option Addr) (c : Nat) : HKP w0 (.agg #[.int .i64 27, .int .i64 p, .string ⟨x.toArray⟩, .int .i64 m, .slice sa 1 c]) := by
 intro w hn
 go_enter Tryz.func80, Tryz.ntmps80
 go_wp2_with fail
 go_ret
 exact ⟨rfl, (Below.refl _ _).alloc (Nat.le_refl _) _⟩

theorem hk_1 (w0 : World) (p m : Int) (x : List UInt8) (sa : Option Addr) (c : Nat) : HKP w0 (.agg #[.int .i64 1, .int .i64 p, .string ⟨x.toArray⟩, .int .i64 m, .slice sa 2 c]) := by
 intro w hn
 go_enter Tryz.func80, Tryz.ntmps80
 go_wp2_with fail
 go_ret
 exact ⟨rfl, (Below.refl _ _).alloc (Nat.le_refl _) _⟩

theorem hk_8 (w0 : World) (p m : Int) (x : List UInt8) (sa : Option Addr) (c : Nat) : HKP w0 (.agg #[.int .i64 8, .int .i64 p, .string ⟨x.toArray⟩, .int .i64 m, .slice sa 2 c]) := by
 intro w hn
 go_enter Tryz.func80, Tryz.ntmps80
 go_wp2_with fail
 go_ret
 exact ⟨rfl, (Below.refl _ _).alloc (Nat.le_refl _) _⟩

theorem hk_10 (w0 : World) (p m : Int) (x : List UInt8) (sa : Option Addr) (c : Nat) : HKP w0 (.agg #[.int .i64 10, .int .i64 p, .string ⟨x.toArray⟩, .int .i64 m, .slice sa 2 c]) := by
 intro w hn
 go_enter Tryz.func80, Tryz.ntmps80
 go_wp2_with fail
 go_ret
 exact ⟨rfl, (Below.refl _ _).alloc (Nat.le_refl _) _⟩

theorem hk_12 (w0 : World) (p m : Int) (x : List UInt8) (sa : Option Addr) (c : Nat) : HKP w0 (.agg #[.int .i64 12, .int .i64 p, .string ⟨x.toArray⟩, .int .i64 m, .slice sa 2 c]) := by
 intro w hn
 go_enter Tryz.func80, Tryz.ntmps80
 go_wp2_with fail
 go_ret
 exact ⟨rfl, (Below.refl _ _).alloc (Nat.le_refl _) _⟩

theorem hk_16 (w0 : World) (p m : Int) (x : List UInt8) (sa : Option Addr) (c : Nat) : HKP w0 (.agg #[.int .i64 16, .int .i64 p, .string ⟨x.toArray⟩, .int .i64 m, .slice sa 2 c]) := by
 intro w hn
 go_enter Tryz.func80, Tryz.ntmps80
 go_wp2_with fail
 go_ret
 exact ⟨rfl, (Below.refl _ _).alloc (Nat.le_refl _) _⟩

theorem hk_18 (w0 : World) (p m : Int) (x : List UInt8) (sa : Option Addr) (c : Nat) : HKP w0 (.agg #[.int .i64 18, .int .i64 p, .string ⟨x.toArray⟩, .int .i64 m, .slice sa 2 c]) := by
 intro w hn
 go_enter Tryz.func80, Tryz.ntmps80
 go_wp2_with fail
 go_ret
 exact ⟨rfl, (Below.refl _ _).alloc (Nat.le_refl _) _⟩

theorem hk_28 (w0 : World) (p m : Int) (x : List UInt8) (sa : Option Addr) (c : Nat) : HKP w0 (.agg #[.int .i64 28, .int .i64 p, .string ⟨x.toArray⟩, .int .i64 m, .slice sa 2 c]) := by
 intro w hn
 go_enter Tryz.func80, Tryz.ntmps80
 go_wp2_with fail
 go_ret
 exact ⟨rfl, (Below.refl _ _).alloc (Nat.le_refl _) _⟩

theorem hk_11 (w0 : World) (p m : Int) (x : List UInt8) (sa : Option Addr) (c : Nat) : HKP w0 (.agg #[.int .i64 11, .int .i64 p, .string ⟨x.toArray⟩, .int .i64 m, .slice sa 3 c]) := by
 intro w hn
 go_enter Tryz.func80, Tryz.ntmps80
 go_wp2_with fail
 go_ret
 exact ⟨rfl, (Below.refl _ _).alloc (Nat.le_refl _) _⟩

theorem hk_22 (w0 : World) (p m : Int) (x : List UInt8) (sa : Option Addr) (c : Nat) : HKP w0 (.agg #[.int .i64 22, .int .i64 p, .string ⟨x.toArray⟩, .int .i64 m, .slice sa 3 c]) := by
 intro w hn
 go_enter Tryz.func80, Tryz.ntmps80
 go_wp2_with fail
 go_ret
 exact ⟨rfl, (Below.refl _ _).alloc (Nat.le_refl _) _⟩

theorem hk_17 (w0 : World) (p m : Int) (x : List UInt8) (sa : Option Addr) (c : Nat) : HKP w0 (.agg #[.int .i64 17, .int .i64 p, .string ⟨x.toArray⟩, .int .i64 m, .slice sa 5 c]) := by
 intro w hn
 go_enter Tryz.func80, Tryz.ntmps80
 go_wp2_with fail
 go_ret
 exact ⟨rfl, (Below.refl _ _).alloc (Nat.le_refl _) _⟩

theorem hk_2 (w0 : World) (p m : Int) (x : List UInt8) (g o c : Nat) (k0 p0 m0 : Int) (n0 : ByteArray) (v0 : Value) (hg : g < w0.heap.size) (_hc : 1 ≤ c) (hk0 : k0 = 7) (E0 : Nod w0 g o k0 p0 n0 m0 v0) : HKP w0 (.agg #[.int .i64 2, .int .i64 p, .string ⟨x.toArray⟩, .int .i64 m, .slice (some ⟨g, o, none⟩) 1 c]) := by
 intro w hn
 subst hk0
 obtain ⟨W0, hW0⟩ : ∃ W, W = w.alloc (.cells #[.int .i64 2, .int .i64 p, .string ⟨x.toArray⟩, .int .i64 m, .slice (some ⟨g, o, none⟩) 1 c] 24) := ⟨_, rfl⟩
 have HB0 : Hid (Below w.heap.size w W0) := by rw [hW0]; exact (Below.refl _ _).alloc (Nat.le_refl _) _
 have HN0 := hid (hn.trans (HB0.out.mono hn.size))
 have b0 : W0.cell? ⟨w.heap.size, 0, none⟩ = some (.int .i64 2) := by rw [hW0]; simp [go_sem]
 have b3 : W0.cell? ⟨w.heap.size, 3, none⟩ = some (.int .i64 m) := by rw [hW0]; simp [go_sem]
 have b4 : W0.cell? ⟨w.heap.size, 4, none⟩ = some (.slice (some ⟨g, o, none⟩) 1 c) := by rw [hW0]; simp [go_sem]
 obtain ⟨f0, f1, f2, f3, f4⟩ := Nod.past E0 hg HN0.out
 clear E0
 go_enter Tryz.func80, Tryz.ntmps80
 go_upto_region 1 with fail
 rw [← hW0]
 clear hW0
 go_wp2_with fail
 go_ret
 exact ⟨rfl, HB0⟩

theorem hk_9rec (w0 : World) (p : Int) (x : List UInt8) (g o c : Nat) (k0 p0 m0 : Int) (n0 : ByteArray) (v0 : Value) (hg : g < w0.heap.size) (_hc : 2 ≤ c) (hk0 : k0 = 7) (E0 : Nod w0 g o k0 p0 n0 m0 v0) : HKP w0 (.agg #[.int .i64 9, .int .i64 p, .string ⟨x.toArray⟩, .int .i64 1, .slice (some ⟨g, o, none⟩) 2 c]) := by
 intro w hn
 subst hk0
 obtain ⟨W0, hW0⟩ : ∃ W, W = w.alloc (.cells #[.int .i64 9, .int .i64 p, .string ⟨x.toArray⟩, .int .i64 1, .slice (some ⟨g, o, none⟩) 2 c] 24) := ⟨_, rfl⟩
 have HB0 : Hid (Below w.heap.size w W0) := by rw [hW0]; exact (Below.refl _ _).alloc (Nat.le_refl _) _
 have HN0 := hid (hn.trans (HB0.out.mono hn.size))
 have b0 : W0.cell? ⟨w.heap.size, 0, none⟩ = some (.int .i64 9) := by rw [hW0]; simp [go_sem]
 have b3 : W0.cell? ⟨w.heap.size, 3, none⟩ = some (.int .i64 1) := by rw [hW0]; simp [go_sem]
 have b4 : W0.cell? ⟨w.heap.size, 4, none⟩ = some (.slice (some ⟨g, o, none⟩) 2 c) := by rw [hW0]; simp [go_sem]
 obtain ⟨f0, f1, f2, f3, f4⟩ := Nod.past E0 hg HN0.out
 clear E0
 go_enter Tryz.func80, Tryz.ntmps80
 go_upto_region 1 with fail
 rw [← hW0]
 clear hW0
 go_wp2_with fail
 go_ret
 exact ⟨rfl, HB0⟩

theorem hk_9 (w0 : World) (p m : Int) (x : List UInt8) (sa : Option Addr) (c : Nat) (hm : ¬ m = 1) : HKP w0 (.agg #[.int .i64 9, .int .i64 p, .string ⟨x.toArray⟩, .int .i64 m, .slice sa 2 c]) := by
 intro w hn
 go_enter Tryz.func80, Tryz.ntmps80
 go_wp2_with fail
 go_ret
 exact ⟨rfl, (Below.refl _ _).alloc (Nat.le_refl _) _⟩

theorem hk_29A (w0 : World) (p m : Int) (x : List UInt8) (g o : Nat) (_hg : g < w0.heap.size) : HKP w0 (.agg #[.int .i64 29, .int .i64 p, .string ⟨x.toArray⟩, .int .i64 m, .slice (some ⟨g, o, none⟩) 2 2]) := by
 intro w hn
 obtain ⟨W0, hW0⟩ : ∃ W, W = w.alloc (.cells #[.int .i64 29, .int .i64 p, .string ⟨x.toArray⟩, .int .i64 m, .slice (some ⟨g, o, none⟩) 2 2] 24) := ⟨_, rfl⟩
 have HB0 : Hid (Below w.heap.size w W0) := by rw [hW0]; exact (Below.refl _ _).alloc (Nat.le_refl _) _
 have HN0 := hid (hn.trans (HB0.out.mono hn.size))
 have b0 : W0.cell? ⟨w.heap.size, 0, none⟩ = some (.int .i64 29) := by rw [hW0]; simp [go_sem]
 have b3 : W0.cell? ⟨w.heap.size, 3, none⟩ = some (.int .i64 m) := by rw [hW0]; simp [go_sem]
 have b4 : W0.cell? ⟨w.heap.size, 4, none⟩ = some (.slice (some ⟨g, o, none⟩) 2 2) := by rw [hW0]; simp [go_sem]
 go_enter Tryz.func80, Tryz.ntmps80
 go_upto_region 1 with fail
 rw [← hW0]
 clear hW0
 go_wp2_with fail
 refine (allOf_any w0 23 (some ⟨g, o, none⟩) 0 0 (Nat.le_refl _) (by omega) (fun h => absurd h (by omega)) _ HN0.out).mono ?_
 rintro e w1 ⟨rfl, HB1⟩
 go_wp2_with fail
 go_ret
 exact ⟨rfl, HB0.out.trans (HB1.out.mono HB0.out.size)⟩

theorem hk_29B (w0 : World) (p m : Int) (x : List UInt8) (g o c L : Nat) (hg : g < w0.heap.size) (hL2 : 2 ≤ L) (hLb : L ≤ 90000) (hc : L ≤ c) (hc2 : ¬ c = 2) (hN : ∀ j, j < L - 2 → ∃ (p m : Int) (n : ByteArray) (va : Option Addr) (vl vc : Nat), Nod w0 g (o + 10 + j * 5) 23 p n m (.slice va vl vc)) : HKP w0 (.agg #[.int .i64 29, .int .i64 p, .string ⟨x.toArray⟩, .int .i64 m, .slice (some ⟨g, o, none⟩) L c]) := by
 intro w hn
 have HNN := hid hN
 clear hN
 obtain ⟨W0, hW0⟩ : ∃ W, W = w.alloc (.cells #[.int .i64 29, .int .i64 p, .string ⟨x.toArray⟩, .int .i64 m, .slice (some ⟨g, o, none⟩) L c] 24) := ⟨_, rfl⟩
 have HB0 : Hid (Below w.heap.size w W0) := by rw [hW0]; exact (Below.refl _ _).alloc (Nat.le_refl _) _
 have HN0 := hid (hn.trans (HB0.out.mono hn.size))
 have b0 : W0.cell? ⟨w.heap.size, 0, none⟩ = some (.int .i64 29) := by rw [hW0]; simp [go_sem]
 have b3 : W0.cell? ⟨w.heap.size, 3, none⟩ = some (.int .i64 m) := by rw [hW0]; simp [go_sem]
 have b4 : W0.cell? ⟨w.heap.size, 4, none⟩ = some (.slice (some ⟨g, o, none⟩) L c) := by rw [hW0]; simp [go_sem]
 go_enter Tryz.func80, Tryz.ntmps80
 go_upto_region 1 with fail
 rw [← hW0]
 clear hW0
 go_wp2_with fail
 refine (allOf_any w0 23 (some ⟨g, o + 10, none⟩) (L - 2) (c - 2) (by omega) (by omega) (fun _ => ⟨g, o + 10, rfl, hg, HNN.out⟩) _ HN0.out).mono ?_
 rintro e w1 ⟨rfl, HB1⟩
 go_wp2_with fail
 go_ret
 exact ⟨rfl, HB0.out.trans (HB1.out.mono HB0.out.size)⟩

theorem hk_20A (w0 : World) (p m : Int) (x : List UInt8) (g o : Nat) (k1 p1 m1 : Int) (n1 : ByteArray) (v1 : Value) (hg : g < w0.heap.size) (hk1 : k1 = 21) (E1 : Nod w0 g (o + 5) k1 p1 n1 m1 v1) : HKP w0 (.agg #[.int .i64 20, .int .i64 p, .string ⟨x.toArray⟩, .int .i64 m, .slice (some ⟨g, o, none⟩) 2 2]) := by
 intro w hn
 subst hk1
 obtain ⟨W0, hW0⟩ : ∃ W, W = w.alloc (.cells #[.int .i64 20, .int .i64 p, .string ⟨x.toArray⟩, .int .i64 m, .slice (some ⟨g, o, none⟩) 2 2] 24) := ⟨_, rfl⟩
 have HB0 : Hid (Below w.heap.size w W0) := by rw [hW0]; exact (Below.refl _ _).alloc (Nat.le_refl _) _
 have HN0 := hid (hn.trans (HB0.out.mono hn.size))
 have b0 : W0.cell? ⟨w.heap.size, 0, none⟩ = some (.int .i64 20) := by rw [hW0]; simp [go_sem]
 have b3 : W0.cell? ⟨w.heap.size, 3, none⟩ = some (.int .i64 m) := by rw [hW0]; simp [go_sem]
 have b4 : W0.cell? ⟨w.heap.size, 4, none⟩ = some (.slice (some ⟨g, o, none⟩) 2 2) := by rw [hW0]; simp [go_sem]
 obtain ⟨f0, f1, f2, f3, f4⟩ := Nod.past E1 hg HN0.out
 clear E1
 go_enter Tryz.func80, Tryz.ntmps80
 go_upto_region 1 with fail
 rw [← hW0]
 clear hW0
 go_wp2_with fail
 refine (allOf_any w0 22 (some ⟨g, o, none⟩) 0 0 (Nat.le_refl _) (by omega) (fun h => absurd h (by omega)) _ HN0.out).mono ?_
 rintro e w1 ⟨rfl, HB1⟩
 go_wp2_with fail
 go_ret
 exact ⟨rfl, HB0.out.trans (HB1.out.mono HB0.out.size)⟩

theorem hk_20B (w0 : World) (p m : Int) (x : List UInt8) (g o c L : Nat) (k1 p1 m1 : Int) (n1 : ByteArray) (v1 : Value) (hg : g < w0.heap.size) (hk1 : k1 = 21) (E1 : Nod w0 g (o + 5) k1 p1 n1 m1 v1) (hL2 : 2 ≤ L) (hLb : L ≤ 90000) (hc : L ≤ c) (hc2 : ¬ c = 2) (hN : ∀ j, j < L - 2 → ∃ (p m : Int) (n : ByteArray) (va : Option Addr) (vl vc : Nat), Nod w0 g (o + 10 + j * 5) 22 p n m (.slice va vl vc)) : HKP w0 (.agg #[.int .i64 20, .int .i64 p, .string ⟨x.toArray⟩, .int .i64 m, .slice (some ⟨g, o, none⟩) L c]) := by
 intro w hn
 subst hk1
 have HNN := hid hN
 clear hN
 obtain ⟨W0, hW0⟩ : ∃ W, W = w.alloc (.cells #[.int .i64 20, .int .i64 p, .string ⟨x.toArray⟩, .int .i64 m, .slice (some ⟨g, o, none⟩) L c] 24) := ⟨_, rfl⟩
 have HB0 : Hid (Below w.heap.size w W0) := by rw [hW0]; exact (Below.refl _ _).alloc (Nat.le_refl _) _
 have HN0 := hid (hn.trans (HB0.out.mono hn.size))
 have b0 : W0.cell? ⟨w.heap.size, 0, none⟩ = some (.int .i64 20) := by rw [hW0]; simp [go_sem]
 have b3 : W0.cell? ⟨w.heap.size, 3, none⟩ = some (.int .i64 m) := by rw [hW0]; simp [go_sem]
 have b4 : W0.cell? ⟨w.heap.size, 4, none⟩ = some (.slice (some ⟨g, o, none⟩) L c) := by rw [hW0]; simp [go_sem]
 obtain ⟨f0, f1, f2, f3, f4⟩ := Nod.past E1 hg HN0.out
 clear E1
 go_enter Tryz.func80, Tryz.ntmps80
 go_upto_region 1 with fail
 rw [← hW0]
 clear hW0
 go_wp2_with fail
 refine (allOf_any w0 22 (some ⟨g, o + 10, none⟩) (L - 2) (c - 2) (by omega) (by omega) (fun _ => ⟨g, o + 10, rfl, hg, HNN.out⟩) _ HN0.out).mono ?_
 rintro e w1 ⟨rfl, HB1⟩
 go_wp2_with fail
 go_ret
 exact ⟨rfl, HB0.out.trans (HB1.out.mono HB0.out.size)⟩

theorem hk_0 (w0 : World) (p : Int) (x : List UInt8) (g o c L N : Nat) (hg : g < w0.heap.size) (hNL : N < L) (hLb : L ≤ 90000) (hc : L ≤ c)
  (hN : ∀ j, j < N → ∃ (p m : Int) (n : ByteArray) (va : Option Addr) (vl vc : Nat), Nod w0 g (o + j * 5) 1 p n m (.slice va vl vc))
  (hM : ∀ j, j < L - 1 - N → ∃ (p m : Int) (n : ByteArray) (va : Option Addr) (vl vc : Nat), Nod w0 g (o + N * 5 + j * 5) 2 p n m (.slice va vl vc)) : HKP w0 (.agg #[.int .i64 0, .int .i64 p, .string ⟨x.toArray⟩, .int .i64 N, .slice (some ⟨g, o, none⟩) L c]) := by
 intro w hn
 have HNN := hid hN
 have HMM := hid hM
 clear hN hM
 obtain ⟨W0, hW0⟩ : ∃ W, W = w.alloc (.cells #[.int .i64 0, .int .i64 p, .string ⟨x.toArray⟩, .int .i64 N, .slice (some ⟨g, o, none⟩) L c] 24) := ⟨_, rfl⟩
 have HB0 : Hid (Below w.heap.size w W0) := by rw [hW0]; exact (Below.refl _ _).alloc (Nat.le_refl _) _
 have HN0 := hid (hn.trans (HB0.out.mono hn.size))
 have b0 : W0.cell? ⟨w.heap.size, 0, none⟩ = some (.int .i64 0) := by rw [hW0]; simp [go_sem]
 have b3 : W0.cell? ⟨w.heap.size, 3, none⟩ = some (.int .i64 N) := by rw [hW0]; simp [go_sem]
 have b4 : W0.cell? ⟨w.heap.size, 4, none⟩ = some (.slice (some ⟨g, o, none⟩) L c) := by rw [hW0]; simp [go_sem]
 have hcN : ¬ c = N := by omega
 go_enter Tryz.func80, Tryz.ntmps80
 go_upto_region 1 with fail
 rw [← hW0]
 clear hW0
 go_wp2_with fail
 refine (allOf_any w0 1 (some ⟨g, o, none⟩) N c (by omega) (by omega) (fun _ => ⟨g, o, rfl, hg, HNN.out⟩) _ HN0.out).mono ?_
 rintro e w1 ⟨rfl, HB1⟩
 have HN1 := hid (HN0.out.trans (HB1.out.mono HN0.out.size))
 have hH : w.heap.size < W0.heap.size := World.block_lt_of_cell? W0 ⟨w.heap.size, 4, none⟩ b4
 have c3 := past_cells HB1.out hH b3
 have c4 := past_cells HB1.out hH b4
 go_wp2_with fail
 refine (allOf_any w0 2 (some ⟨g, o + N * 5, none⟩) (L - 1 - N) (c - N) (by omega) (by omega) (fun _ => ⟨g, o + N * 5, rfl, hg, HMM.out⟩) _ HN1.out).mono ?_
 rintro e w2 ⟨rfl, HB2⟩
 go_wp2_with fail
 go_ret
 exact ⟨rfl, (HB0.out.trans (HB1.out.mono HB0.out.size)).trans (HB2.out.mono (Nat.le_trans HB0.out.size HB1.out.size))⟩
end Go.Proofs.YtoajnlhegallpaaGreatDoor
