/-
  What the program writes of a type: what stands between the two sides of an arrow.
-/
import Derived.Test.YtkpfadapgjijgabDoorWA
namespace Go.Proofs.YtkpfadapgjijgabDoor
open Go.RowKit

set_option maxRecDepth 100000 in
set_option maxHeartbeats 8000000 in
theorem arrowW_any (k n : Int) (r : Nat) (a : Option Addr) (c : Nat) (o : List (List UInt8)) (az : Value) (w : World) (hr : r ≤ 1000000000) (hO : OpsV w (.slice a o.length c) o) (hx : ∀ x ∈ o, x.length ≤ 1048576) (hl : o.length ≤ 300) (ht : TabW w) :
    Calls Tryd.prog 20 #[.agg #[.int .i64 k, .int .i64 n, .int .i64 r, .slice a o.length c, az]] w fun e w' => e = .returned (.string ⟨(Ty.arrowT o r).toArray⟩) ∧ Hid (Below w.heap.size w w') := by
  have HJ := hid (fun (ob : Obj) => joinW_any a c o (w.alloc ob) (hO.carry (fun b hb => heap_alloc_old w ob hb)) hx hl)
  have hjl := Ty.joinC_len o hx
  have HI := hid (fun (w2 : World) (hb : Below w.heap.size w w2) => itoa_any r hr w2 (ht.past hb))
  have hdl := Ty.dig_small hr
  have HA : Hid (Ty.arrowT o r = Ty.wrapT (Ty.barT (Ty.joinC o) r)) := rfl
  have hjs : (Ty.joinC o).length ≤ 314573400 := by omega
  clear hO hx ht hjl
  generalize Ty.joinC o = x at HJ hjs HA
  generalize o.length = lo at HJ hl ⊢
  generalize Ty.arrowT o r = tx at HA ⊢
  go_enter Tryd.func20, Tryd.ntmps20
  go_wp2_with fail
  refine (HJ.out _).mono ?_
  rintro e w1 ⟨rfl, HB1⟩
  have b2 := past_cells (W := w.alloc (.cells #[.int .i64 k, .int .i64 n, .int .i64 r, .slice a lo c, az] 25)) (off := 2) (v := .int .i64 r) HB1.out (b := w.heap.size) (by simp) (by simp [go_sem])
  have HBW := hid ((Below.alloc (Below.refl w.heap.size w) (Nat.le_refl _) _).trans (HB1.out.mono (by simp)))
  by_cases hr0 : r = 0
  · subst hr0
    by_cases hx0 : x = []
    · subst hx0
      go_wp2_with fail
      go_ret
      exact ⟨ret_str (by rw [HA.out]; simp [Ty.wrapT, Ty.barT]), HBW⟩
    · have hx1 : (x == ([] : List UInt8)) = false := by simpa using hx0
      have hx2 : (x != ([] : List UInt8)) = true := by simpa using hx0
      go_wp2_with fail
      go_ret
      exact ⟨ret_str (by rw [HA.out]; simp [Ty.wrapT, Ty.barT, hx0, ByteArray.data_append]), HBW⟩
  · have hr1 : 0 < r := by omega
    have HBT : Hid (Ty.barT x r = (if x = [] then [] else x ++ [32]) ++ 124 :: 32 :: 114 :: Ty.dig r) := by simp [Hid, Ty.barT, hr0]
    generalize hbt : Ty.barT x r = bt at HBT HA
    clear hbt
    generalize Ty.dig r = dg at hdl HI HBT
    have hbn : bt ≠ [] := by rw [HBT.out]; simp
    by_cases hx0 : x = []
    · subst hx0
      go_wp2_with fail
      refine (HI.out _ HBW.out).mono ?_
      rintro e w2 ⟨rfl, HB2⟩
      go_upto_region 6 with fail
      generalize hXd : (⟨#[]⟩ ++ (⟨#[124, 32, 114]⟩ ++ ⟨dg.toArray⟩) : ByteArray) = X
      have hXs : X.size ≤ 319999000 := by rw [← hXd]; simp [ByteArray.size]; omega
      have HXL : Hid (X.data.toList = bt) := by rw [Hid, ← hXd, HBT.out]; simp [ByteArray.data_append]
      have hX1 : (X.toList == ([] : List UInt8)) = false := by rw [Lib.toList_data, HXL.out]; simpa using hbn
      have hX2 : (X.toList != ([] : List UInt8)) = true := by rw [Lib.toList_data, HXL.out]; simpa using hbn
      clear hXd
      go_wp2_with fail
      go_ret
      exact ⟨ret_str (by rw [HA.out]; simp [Ty.wrapT, hbn, ByteArray.data_append, HXL.out]), HBW.out.trans (HB2.out.mono HBW.out.size)⟩
    · have hx1 : (x == ([] : List UInt8)) = false := by simpa using hx0
      have hx2 : (x != ([] : List UInt8)) = true := by simpa using hx0
      go_wp2_with fail
      refine (HI.out _ HBW.out).mono ?_
      rintro e w2 ⟨rfl, HB2⟩
      go_upto_region 6 with fail
      generalize hXd : (⟨x.toArray⟩ ++ ⟨#[32]⟩ ++ (⟨#[124, 32, 114]⟩ ++ ⟨dg.toArray⟩) : ByteArray) = X
      have hXs : X.size ≤ 319999000 := by rw [← hXd]; simp [ByteArray.size]; omega
      have HXL : Hid (X.data.toList = bt) := by rw [Hid, ← hXd, HBT.out]; simp [ByteArray.data_append, hx0]
      have hX1 : (X.toList == ([] : List UInt8)) = false := by rw [Lib.toList_data, HXL.out]; simpa using hbn
      have hX2 : (X.toList != ([] : List UInt8)) = true := by rw [Lib.toList_data, HXL.out]; simpa using hbn
      clear hXd
      go_wp2_with fail
      go_ret
      exact ⟨ret_str (by rw [HA.out]; simp [Ty.wrapT, hbn, ByteArray.data_append, HXL.out]), HBW.out.trans (HB2.out.mono HBW.out.size)⟩
end Go.Proofs.YtkpfadapgjijgabDoor
