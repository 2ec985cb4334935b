/-
  The statement Shows as a call: it answers true, and makes memory alone.
-/
import Derived.Test.YtkpfadapgjijgabDoorWG
namespace Go.Proofs.YtkpfadapgjijgabDoor
open Go.RowKit

/-- In a world like W the program's Show and the document's, behind it, write the same. -/
theorem both (W : World) (t : Ty.P) (ht : t.ok) (hp : t.parts ≤ 300) (os az : Value) (hI : IsT W t os az) (hT : TabW W) :
    (∀ (V : World), V.heap = W.heap → Calls Tryd.prog 5 #[.agg #[.int .i64 t.kind, .int .i64 t.num, .int .i64 t.row, os, az]] V fun en w' => StrRes V t.text en w') ∧
    (∀ (V U X : World), V.heap = W.heap → Below V.heap.size V U → X.heap = U.heap → Calls Tryd.prog 6 #[.agg #[.int .i64 t.kind, .int .i64 t.num, .int .i64 t.row, os, az]] X fun en w' => StrRes X t.text en w') := by
  refine ⟨fun V hV => showW_any t ht hp V os az (hI.at hV) ?_, fun V U X hV hb hX => show_any t ht hp X os az (((hI.at hV).past hb).at hX)⟩
  unfold TabW Lib.TabIs World.var? at *
  rw [hV]
  exact hT

set_option maxRecDepth 100000 in
set_option maxHeartbeats 8000000 in
theorem shows_call (w : World) (k n r : Int) (os az : Value) (h : Rdb w 301 os az) (hT : TabW w) :
    Calls Tryd.prog 3 #[.agg #[.int .i64 k, .int .i64 n, .int .i64 r, os, az]] w fun en w' => en = .returned (.bool true) ∧ Below w.heap.size w w' := by
  have HP := hid (fun (ob : Obj) => proper_top (w.alloc ob) k n r os az (h.past ((Below.refl _ _).alloc (Nat.le_refl _) ob)))
  obtain ⟨⟨o, ⟨ao, co, rfl, _⟩, _⟩, aa, la, ca, rfl, _⟩ := h
  have HT := hid hT
  clear hT
  generalize o.length = lo at HP ⊢
  go_enter Tryd.func3, Tryd.ntmps3
  go_wp2_with fail
  refine (HP.out _).mono ?_
  rintro en w1 ⟨ok, rfl, hb1, hok⟩
  have hz : w.heap.size < (w.alloc (.cells #[.int .i64 k, .int .i64 n, .int .i64 r, .slice ao lo co, .slice aa la ca] 25)).heap.size := by simp
  have HB1 := hid hb1
  have HK := hid hok
  have hHW : w.heap.size < w1.heap.size := Nat.lt_of_lt_of_le hz hb1.size
  have HBW := hid ((Below.alloc (Below.refl w.heap.size w) (Nat.le_refl _) (.cells #[.int .i64 k, .int .i64 n, .int .i64 r, .slice ao lo co, .slice aa la ca] 25)).trans (hb1.mono (Nat.le_of_lt hz)))
  have b0 := past_cells hb1 (off := 0) (v := .int .i64 k) hz (by simp [go_sem])
  have b1 := past_cells hb1 (off := 1) (v := .int .i64 n) hz (by simp [go_sem])
  have b2 := past_cells hb1 (off := 2) (v := .int .i64 r) hz (by simp [go_sem])
  have b3 := past_cells hb1 (off := 3) (v := .slice ao lo co) hz (by simp [go_sem])
  have b4 := past_cells hb1 (off := 4) (v := .slice aa la ca) hz (by simp [go_sem])
  have HTW := hid (HT.out.past HBW.out)
  have z0 : w1.frozen? ⟨w.heap.size, 0, none⟩ = false := (hb1.frozen (p := ⟨w.heap.size, 0, none⟩) hz).trans (by simp [go_sem])
  have z1 : w1.frozen? ⟨w.heap.size, 1, none⟩ = false := (hb1.frozen (p := ⟨w.heap.size, 1, none⟩) hz).trans (by simp [go_sem])
  have z2 : w1.frozen? ⟨w.heap.size, 2, none⟩ = false := (hb1.frozen (p := ⟨w.heap.size, 2, none⟩) hz).trans (by simp [go_sem])
  have z3 : w1.frozen? ⟨w.heap.size, 3, none⟩ = false := (hb1.frozen (p := ⟨w.heap.size, 3, none⟩) hz).trans (by simp [go_sem])
  have z4 : w1.frozen? ⟨w.heap.size, 4, none⟩ = false := (hb1.frozen (p := ⟨w.heap.size, 4, none⟩) hz).trans (by simp [go_sem])
  clear hb1 hok hz
  cases ok with
  | true =>
    obtain ⟨t, t1, t2, t3, t4, t5, t6⟩ := HK.out rfl
    obtain ⟨hs1, hs2⟩ := both w1 t t1 t6 _ _ (t5.past HB1.out) HTW.out
    have HSW := hid (fun (V : World) (hV : V.heap = w1.heap) => hs1 V hV)
    have HSR := hid (fun (V U X : World) (h1 : V.heap = w1.heap) (h2 : Below V.heap.size V U) (h3 : X.heap = U.heap) => hs2 V U X h1 h2 h3)
    rw [← t2, ← t3, ← t4] at HSW HSR
    clear hs1 hs2 t1 t2 t3 t4 t5 t6 HK
    go_wp2_with fail
    go_region_held3 (fun w' => w'.cell? ⟨w.heap.size, 0, none⟩ = some (.int .i64 k) ∧ w'.cell? ⟨w.heap.size, 1, none⟩ = some (.int .i64 n) ∧ w'.cell? ⟨w.heap.size, 2, none⟩ = some (.int .i64 r) ∧ w'.cell? ⟨w.heap.size, 3, none⟩ = some (.slice ao lo co) ∧ w'.cell? ⟨w.heap.size, 4, none⟩ = some (.slice aa la ca)) (go_keep)
      ((first
        | (go_at_call 5; refine (HSW.out _ (by rfl)).mono ?_; rintro en w3 ⟨rfl, HB3⟩
           have k0 := past_cells HB3.out hHW b0
           have k1 := past_cells HB3.out hHW b1
           have k2 := past_cells HB3.out hHW b2
           have k3 := past_cells HB3.out hHW b3
           have k4 := past_cells HB3.out hHW b4
           have hH3 : w.heap.size < w3.heap.size := Nat.lt_of_lt_of_le hHW HB3.out.size)
        | (go_at_call 6; refine (HSR.out _ w3 _ (by rfl) HB3.out (by rfl)).mono ?_; rintro en w4 ⟨rfl, HB4⟩
           have l0 := past_cells HB4.out hH3 k0
           have l1 := past_cells HB4.out hH3 k1
           have l2 := past_cells HB4.out hH3 k2
           have l3 := past_cells HB4.out hH3 k3
           have l4 := past_cells HB4.out hH3 k4)))
    all_goals
      go_wp2_with fail
      go_ret
      refine ⟨ret_bool (by simp), ?_⟩
      refine Below.trans ?_ (HB4.out.mono (Nat.le_of_lt hH3))
      repeat (with_reducible (apply Below.drew))
      refine Below.trans ?_ (HB3.out.mono (Nat.le_of_lt hHW))
      repeat (with_reducible (first | exact HBW.out | apply Below.drew))
  | false =>
    clear HK
    go_wp2_with fail
    obtain ⟨W, hW⟩ : ∃ W, W = ((((((w1.setCell ⟨w.heap.size, 0, none⟩ (.int .i64 4)).setCell ⟨w.heap.size, 1, none⟩ (.int .i64 0)).setCell ⟨w.heap.size, 2, none⟩ (.int .i64 0)).setCell ⟨w.heap.size, 3, none⟩ (.slice none 0 0)).setCell
      ⟨w.heap.size, 4, none⟩ (.slice (some ⟨w1.heap.size, 0, none⟩) 1 1)).alloc (.cells #[.int .i64 1, .int .i64 0, .int .i64 0, .slice none 0 0, .slice none 0 0] 25)) := ⟨_, rfl⟩
    rw [← hW]
    have hzn : ¬ w.heap.size = w1.heap.size := by omega
    have hBW2 : Below w.heap.size w W := by
      rw [hW]
      exact Below.alloc (Below.setCell (Below.setCell (Below.setCell (Below.setCell (Below.setCell HBW.out (Nat.le_refl _) _) (Nat.le_refl _) _) (Nat.le_refl _) _) (Nat.le_refl _) _) (Nat.le_refl _) _) (by simp [go_sem]; omega) _
    have hHW2 : w.heap.size < W.heap.size := by rw [hW]; simp [go_sem]; omega
    have key : ∀ k, W.cell? ⟨w.heap.size, k, none⟩ = (((((w1.setCell ⟨w.heap.size, 0, none⟩ (.int .i64 4)).setCell ⟨w.heap.size, 1, none⟩ (.int .i64 0)).setCell ⟨w.heap.size, 2, none⟩ (.int .i64 0)).setCell ⟨w.heap.size, 3, none⟩ (.slice none 0 0)).setCell ⟨w.heap.size, 4, none⟩ (.slice (some ⟨w1.heap.size, 0, none⟩) 1 1)).cell? ⟨w.heap.size, k, none⟩ := fun k => by
      rw [hW]
      exact World.cell?_of_block (a := ⟨w.heap.size, k, none⟩) (heap_alloc_old _ _ (by simp [go_sem]; omega))
    have d0 : W.cell? ⟨w.heap.size, 0, none⟩ = some (.int .i64 4) := (key 0).trans (by simp [go_sem, b0])
    have d1 : W.cell? ⟨w.heap.size, 1, none⟩ = some (.int .i64 0) := (key 1).trans (by simp [go_sem, b1])
    have d2 : W.cell? ⟨w.heap.size, 2, none⟩ = some (.int .i64 0) := (key 2).trans (by simp [go_sem, b2])
    have d3 : W.cell? ⟨w.heap.size, 3, none⟩ = some (.slice none 0 0) := (key 3).trans (by simp [go_sem, b3])
    have d4 : W.cell? ⟨w.heap.size, 4, none⟩ = some (.slice (some ⟨w1.heap.size, 0, none⟩) 1 1) := (key 4).trans (by simp [go_sem, b4])
    have hIT : IsT W (.list .int) (.slice none 0 0) (.slice (some ⟨w1.heap.size, 0, none⟩) 1 1) := by
      refine ⟨⟨_, _, rfl⟩, w1.heap.size, 0, 1, .slice none 0 0, .slice none 0 0, rfl, Nat.le_refl _, ?_, ⟨_, _, rfl⟩, ⟨_, _, rfl⟩⟩
      rw [hW]
      refine ⟨?_, ?_, ?_, ?_, ?_⟩ <;> simp [go_sem, Ty.P.kind, Ty.P.num, Ty.P.row]
    obtain ⟨hs1, hs2⟩ := both W (.list .int) trivial (by decide) _ _ hIT (HT.out.past hBW2)
    have HSW := hid (fun (V : World) (hV : V.heap = W.heap) => hs1 V hV)
    have HSR := hid (fun (V U X : World) (h1 : V.heap = W.heap) (h2 : Below V.heap.size V U) (h3 : X.heap = U.heap) => hs2 V U X h1 h2 h3)
    have HBW2 := hid hBW2
    clear hs1 hs2 hIT hBW2 key hW b0 b1 b2 b3 b4 z0 z1 z2 z3 z4
    simp only [Ty.P.kind, Ty.P.num, Ty.P.row] at HSW HSR
    generalize (Ty.P.list .int).text = x at HSW HSR
    go_region_held3 (fun w' => w'.cell? ⟨w.heap.size, 0, none⟩ = some (.int .i64 4) ∧ w'.cell? ⟨w.heap.size, 1, none⟩ = some (.int .i64 0) ∧ w'.cell? ⟨w.heap.size, 2, none⟩ = some (.int .i64 0) ∧ w'.cell? ⟨w.heap.size, 3, none⟩ = some (.slice none 0 0) ∧ w'.cell? ⟨w.heap.size, 4, none⟩ = some (.slice (some ⟨w1.heap.size, 0, none⟩) 1 1)) (go_keep)
      ((first
        | (go_at_call 5; refine (HSW.out _ (by rfl)).mono ?_; rintro en w3 ⟨rfl, HB3⟩
           have k0 := past_cells HB3.out hHW2 d0
           have k1 := past_cells HB3.out hHW2 d1
           have k2 := past_cells HB3.out hHW2 d2
           have k3 := past_cells HB3.out hHW2 d3
           have k4 := past_cells HB3.out hHW2 d4
           have hH3 : w.heap.size < w3.heap.size := Nat.lt_of_lt_of_le hHW2 HB3.out.size)
        | (go_at_call 6; refine (HSR.out _ w3 _ (by rfl) HB3.out (by rfl)).mono ?_; rintro en w4 ⟨rfl, HB4⟩
           have l0 := past_cells HB4.out hH3 k0
           have l1 := past_cells HB4.out hH3 k1
           have l2 := past_cells HB4.out hH3 k2
           have l3 := past_cells HB4.out hH3 k3
           have l4 := past_cells HB4.out hH3 k4)))
    all_goals
      go_wp2_with fail
      go_ret
      refine ⟨ret_bool (by simp), ?_⟩
      refine Below.trans ?_ (HB4.out.mono (Nat.le_of_lt hH3))
      repeat (with_reducible (apply Below.drew))
      refine Below.trans ?_ (HB3.out.mono (Nat.le_of_lt hHW2))
      repeat (with_reducible (first | exact HBW2.out | apply Below.drew))
end Go.Proofs.YtkpfadapgjijgabDoor
