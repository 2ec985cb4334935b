/-
  Which trees may be walked: sound.
-/
import Derived.Test.YtoajnlhegallpaaGreatDoorMWr
import Derived.OneCell
set_option linter.unusedVariables false
set_option linter.unusedSimpArgs false
set_option maxRecDepth 100000
set_option maxHeartbeats 8000000
namespace Go.Proofs.YtoajnlhegallpaaGreatDoor
open Go.RowKit
open Sy (Tr)

structure SoP (w0 w W : World) (b : Nat) (left : Int) : Prop where
 ctr : W.heap[b]? = some (.cells #[.int .i64 left] 3 (0, 0))
 new : Below w0.heap.size w0 W
 oth : ∀ k, k < w.heap.size → k ≠ b → W.heap[k]? = w.heap[k]?
 sz : w.heap.size ≤ W.heap.size
theorem SoP.past {w0 w W W' : World} {b : Nat} {left : Int} (h : SoP w0 w W b left) (hb : Below W.heap.size W W') (hlt : b < W.heap.size) : SoP w0 w W' b left :=
 ⟨by rw [hb.block b hlt]; exact h.ctr, h.new.trans (hb.mono h.new.size), fun k hk hkb => by rw [hb.block k (by have := h.sz; omega)]; exact h.oth k hk hkb, Nat.le_trans h.sz hb.size⟩
theorem SoP.trans {w0 w W W' : World} {b : Nat} {l1 l2 : Int} (h : SoP w0 w W b l1) (h2 : SoP w0 W W' b l2) : SoP w0 w W' b l2 :=
 ⟨h2.ctr, h2.new, fun k hk hkb => by rw [h2.oth k (by have := h.sz; omega) hkb]; exact h.oth k hk hkb, Nat.le_trans h.sz h2.sz⟩
theorem SoP.lt {w0 w W : World} {b : Nat} {left : Int} (h : SoP w0 w W b left) : b < W.heap.size := by
 rcases Nat.lt_or_ge b W.heap.size with h1 | h1
 ·exact h1
 ·have := h.ctr; rw [Array.getElem?_eq_none h1] at this; cases this

theorem sound_step (w0 : World) (k p m : Int) (x : List UInt8) (L c b : Nat) (sa : Option Addr) (hB : w0.heap.size ≤ b) (hx : x.length ≤ 20) (_hLc : L ≤ c) (hLb : L ≤ 90000)
  (hK : ∀ (w : World), Below w0.heap.size w0 w → Calls Tryz.prog 80 #[.agg #[.int .i64 k, .int .i64 p, .string ⟨x.toArray⟩, .int .i64 m, .slice sa L c]] w fun e w' => e = .returned (.bool true) ∧ Hid (Below w.heap.size w w'))
  (cn : Nat → Nat)
  (hN : 0 < L → ∃ g o, sa = some ⟨g, o, none⟩ ∧ g < w0.heap.size ∧ ∀ j, j < L → ∃ (k p m : Int) (n : ByteArray) (va : Option Addr) (vl vc : Nat), Nod w0 g (o + j * 5) k p n m (.slice va vl vc) ∧
   ∀ (w : World) (left : Int), Below w0.heap.size w0 w → w.heap[b]? = some (.cells #[.int .i64 left] 3 (0, 0)) → (cn (j + 1) - cn j : Int) ≤ left → left ≤ 1000000 → Calls Tryz.prog 46 #[.agg #[.int .i64 k, .int .i64 p, .string n, .int .i64 m, .slice va vl vc], .pointer (some ⟨b, 0, none⟩)] w fun e w' => e = .returned (.bool true) ∧ Hid (SoP w0 w w' b (left - (cn (j + 1) - cn j))))
  (hc0 : cn 0 = 0) (hmono : ∀ j, cn j ≤ cn (j + 1)) (hmx : ∀ j, j ≤ L → cn j ≤ cn L) :
  ∀ (w : World) (left : Int), Below w0.heap.size w0 w → w.heap[b]? = some (.cells #[.int .i64 left] 3 (0, 0)) → (1 + cn L : Int) ≤ left → left ≤ 1000000 →
  Calls Tryz.prog 46 #[.agg #[.int .i64 k, .int .i64 p, .string ⟨x.toArray⟩, .int .i64 m, .slice sa L c], .pointer (some ⟨b, 0, none⟩)] w fun e w' => e = .returned (.bool true) ∧ Hid (SoP w0 w w' b (left - (1 + cn L))) := by
 intro w left hn hctr hl1 hl2
 have HK := hid hK
 have HNN := hid hN
 have HC0 := hid hc0
 have HMX := hid hmx
 have hbl : b < w.heap.size := by
  rcases Nat.lt_or_ge b w.heap.size with h1 | h1
  ·exact h1
  ·rw [Array.getElem?_eq_none h1] at hctr; cases hctr
 have hxs : ¬ (x.length : Int) > 20 := by omega
 clear hK hN hc0 hmx
 obtain ⟨W0, hW0⟩ : ∃ W, W = w.alloc (.cells #[.int .i64 k, .int .i64 p, .string ⟨x.toArray⟩, .int .i64 m, .slice sa L c] 24) := ⟨_, rfl⟩
 have HB0 : Hid (Below w.heap.size w W0) := by rw [hW0]; exact (Below.refl _ _).alloc (Nat.le_refl _) _
 have HS0 : Hid (SoP w0 w W0 b left) := (SoP.mk hctr hn (fun _ _ _ => rfl) (Nat.le_refl _) : SoP w0 w w b left).past HB0.out hbl
 have d0 : W0.cell? ⟨b, 0, none⟩ = some (.int .i64 left) := by simp [World.cell?, HS0.out.ctr]
 have d1 : W0.frozen? ⟨b, 0, none⟩ = false := by simp [World.frozen?, HS0.out.ctr]
 have b0 : W0.cell? ⟨w.heap.size, 0, none⟩ = some (.int .i64 k) := by rw [hW0]; simp [go_sem]
 have b1 : W0.cell? ⟨w.heap.size, 1, none⟩ = some (.int .i64 p) := by rw [hW0]; simp [go_sem]
 have b2 : W0.cell? ⟨w.heap.size, 2, none⟩ = some (.string ⟨x.toArray⟩) := by rw [hW0]; simp [go_sem]
 have b3 : W0.cell? ⟨w.heap.size, 3, none⟩ = some (.int .i64 m) := by rw [hW0]; simp [go_sem]
 have b4 : W0.cell? ⟨w.heap.size, 4, none⟩ = some (.slice sa L c) := by rw [hW0]; simp [go_sem]
 have hbn : ¬ w.heap.size = b := by omega
 have hlz : ¬ (left - 1 < 0) := by omega
 have hlz2 : decide (left - 1 < 0) = false := by simp; omega
 have hbn2 : ¬ b = w.heap.size := by omega
 go_enter Tryz.func46, Tryz.ntmps46
 go_upto_region 1 with fail
 rw [← hW0]
 clear hW0
 go_wp2_with fail
 obtain ⟨W1, hW1⟩ : ∃ W1, W1 = W0.setCell ⟨b, 0, none⟩ (.int .i64 (left - 1)) := ⟨_, rfl⟩
 rw [← hW1]
 have HS1 : Hid (SoP w0 W0 W1 b (left - 1)) := by
  rw [hW1]
  exact ⟨one_setCell HS0.out.ctr, HS0.out.new.setCell (p := ⟨b, 0, none⟩) hB _, fun q hq hqb => Below.heap_setCell _ _ _ _ hqb, by simp⟩
 clear hW1 b0 b1 b2 b3 d0 d1
 refine (HK.out _ HS1.out.new).mono ?_
 rintro e w1 ⟨rfl, HB1⟩
 have HS2 := hid (HS1.out.past HB1.out HS1.out.lt)
 have hH : w.heap.size < W0.heap.size := World.block_lt_of_cell? W0 ⟨w.heap.size, 4, none⟩ b4
 have c4 : w1.cell? ⟨w.heap.size, 4, none⟩ = some (.slice sa L c) := by
  rw [← b4]
  exact World.cell?_of_block (w := W0) (w' := w1) (a := ⟨w.heap.size, 4, none⟩) (HS2.out.oth _ hH hbn)
 clear b4
 go_wp2_with fail
 go_loopw [30] (fun v wr => ∃ q : Nat, v = .int .i64 q ∧ q ≤ L ∧ Hid (SoP w0 W0 wr b (left - 1 - cn q))) (fun v _ => L - (intOf v).toNat)
 case atStart => exact ⟨0, rfl, Nat.zero_le _, by rw [HC0.out]; simpa using HS2⟩
 case round =>
  obtain ⟨q, rfl, hq, HS⟩ := hrel
  by_cases hlt : q < L
  ·obtain ⟨g, o, hsa, hg, hcell⟩ := HNN.out (by omega)
   subst hsa
   obtain ⟨k1, p1, m1, n1, va1, vl1, vc1, hnod, hcall⟩ := hcell q hlt
   have HCA := hid hcall
   have hm1 := HMX.out (q + 1) (by omega)
   have hm2 := hmono q
   obtain ⟨f0, f1, f2, f3, f4⟩ := Nod.past hnod hg HS.out.new
   have hgn : ¬ g = wr.heap.size := by have := HS.out.new.size; omega
   clear hcell hnod hcall
   have hqi : (q : Int) < (L : Int) := by omega
   go_upto_region 7 with fail
   obtain ⟨X, hX⟩ : ∃ X, X = wr.alloc (.cells #[.int .i64 k1, .int .i64 p1, .string n1, .int .i64 m1, .slice va1 vl1 vc1] 24) := ⟨_, rfl⟩
   rw [← hX]
   have HX : Hid (SoP w0 W0 X b (left - 1 - cn q)) := by rw [hX]; exact HS.out.past ((Below.refl _ _).alloc (Nat.le_refl _) _) HS.out.lt
   have c0 : X.cell? ⟨wr.heap.size, 0, none⟩ = some (.int .i64 k1) := by rw [hX]; simp [go_sem]
   have c1 : X.cell? ⟨wr.heap.size, 1, none⟩ = some (.int .i64 p1) := by rw [hX]; simp [go_sem]
   have c2 : X.cell? ⟨wr.heap.size, 2, none⟩ = some (.string n1) := by rw [hX]; simp [go_sem]
   have c3 : X.cell? ⟨wr.heap.size, 3, none⟩ = some (.int .i64 m1) := by rw [hX]; simp [go_sem]
   have c5 : X.cell? ⟨wr.heap.size, 4, none⟩ = some (.slice va1 vl1 vc1) := by rw [hX]; simp [go_sem]
   clear hX f0 f1 f2 f3 f4
   go_wp2_with fail
   refine (HCA.out X (left - 1 - cn q) HX.out.new HX.out.ctr (by omega) (by omega)).mono ?_
   rintro e w2 ⟨rfl, HY⟩
   have HZ := hid (HX.out.trans HY.out)
   go_wp2_with fail
   go_roundw
   case rel =>
    refine ⟨q + 1, by go_num, by omega, ?_⟩
    have e : left - 1 - (cn q : Int) - ((cn (q + 1) : Int) - cn q) = left - 1 - cn (q + 1) := by omega
    rw [e] at HZ
    exact HZ
   case measure => simp [intOf] <;> omega
  ·have hqi : ¬ (q : Int) < (L : Int) := by omega
   have hqe : q = L := by omega
   go_wp2_with fail
   go_ret
   refine ⟨rfl, ?_⟩
   rw [hqe] at HS
   have e : left - 1 - (cn L : Int) = left - (1 + cn L) := by omega
   rw [e] at HS
   exact HS0.out.trans HS.out
end Go.Proofs.YtoajnlhegallpaaGreatDoor
