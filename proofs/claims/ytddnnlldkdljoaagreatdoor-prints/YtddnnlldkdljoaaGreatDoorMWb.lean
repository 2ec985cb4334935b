/-
  The level of a node; a node of which a level is asked for; digits; the word rec.
  What the document writes of a node: let, let rec; def.
  What the document writes of a node: the five signs.
-/
import Derived.Test.YtddnnlldkdljoaaGreatDoorMMem
namespace Go.Proofs.YtddnnlldkdljoaaGreatDoor
open Go.RowKit

/-- The document's level of a node. -/
def levD (k : Int) (x : List UInt8) : Int :=
  if k = 9 ∨ k = 7 ∨ k = 11 ∨ k = 17 ∨ k = 20 ∨ k = 10 ∨ k = 29 then 0 else if k = 28 then 1 else if k = 27 then 2 else if k = 24 ∨ k = 25 ∨ k = 26 then 3 else if k = 16 then 2
  else if k = 8 ∨ k = 19 ∨ k = 13 ∨ k = 14 then 5 else if k = 18 then (if x = [61, 61] ∨ x = [60] then 1 else if x = [42] then 4 else 3) else 6

set_option maxRecDepth 100000 in
set_option maxHeartbeats 4000000 in
theorem level_any (k p m : Int) (x : List UInt8) (v : Value) (w : World) :
    Calls Tryz.prog 26 #[.agg #[.int .i64 k, .int .i64 p, .string ⟨x.toArray⟩, .int .i64 m, v]] w fun e w' => e = .returned (.int .i64 (levD k x)) ∧ Hid (Below w.heap.size w w') := by
  unfold levD
  go_enter Tryz.func26, Tryz.ntmps26
  go_wp2
  all_goals go_ret
  all_goals refine ⟨ret_int ?_, (Below.refl _ _).alloc (Nat.le_refl _) _⟩
  all_goals simp_all

set_option maxRecDepth 100000 in
set_option maxHeartbeats 4000000 in
theorem in_any (k p m lv least : Int) (n x : List UInt8) (v : Value) (w : World) (hl : levD k n = lv) (hx : x.length ≤ 1000000000)
    (h : WOK w (.agg #[.int .i64 k, .int .i64 p, .string ⟨n.toArray⟩, .int .i64 m, v]) x) :
    IOK w (.agg #[.int .i64 k, .int .i64 p, .string ⟨n.toArray⟩, .int .i64 m, v]) least (if lv < least then [40, 32] ++ x ++ [32, 41] else x) := by
  intro V hV
  have HV := hid hV
  have HW := hid h
  have HL := hid (fun (w : World) => hl ▸ level_any k p m n v w)
  clear hV h hl
  by_cases hlt : lv < least
  · rw [if_pos hlt]
    go_enter Tryz.func24, Tryz.ntmps24
    go_wp2_with fail
    refine (HW.out _ (HV.out.alloc HV.out.size _)).mono ?_
    rintro en w1 ⟨rfl, HB1⟩
    have hH : V.heap.size < (V.alloc (.cells #[.int .i64 k, .int .i64 p, .string ⟨n.toArray⟩, .int .i64 m, v] 24)).heap.size := by simp
    have b0 := past_cells HB1.out (off := 0) (v := .int .i64 k) hH (by simp [go_sem])
    have b1 := past_cells HB1.out (off := 1) (v := .int .i64 p) hH (by simp [go_sem])
    have b2 := past_cells HB1.out (off := 2) (v := .string ⟨n.toArray⟩) hH (by simp [go_sem])
    have b3 := past_cells HB1.out (off := 3) (v := .int .i64 m) hH (by simp [go_sem])
    have b4 := past_cells HB1.out (off := 4) (v := v) hH (by simp [go_sem])
    go_wp2_with fail
    refine (HL.out _).mono ?_
    rintro en w2 ⟨rfl, HB2⟩
    go_wp2_with fail
    go_ret
    exact str_fin (by simp [ByteArray.data_append]) ((Below.alloc (Below.refl V.heap.size V) (Nat.le_refl _) _).trans ((HB1.out.mono (Nat.le_of_lt hH)).trans (HB2.out.mono (Nat.le_trans (Nat.le_of_lt hH) HB1.out.size))))
  · rw [if_neg hlt]
    go_enter Tryz.func24, Tryz.ntmps24
    go_wp2_with fail
    refine (HW.out _ (HV.out.alloc HV.out.size _)).mono ?_
    rintro en w1 ⟨rfl, HB1⟩
    have hH : V.heap.size < (V.alloc (.cells #[.int .i64 k, .int .i64 p, .string ⟨n.toArray⟩, .int .i64 m, v] 24)).heap.size := by simp
    have b0 := past_cells HB1.out (off := 0) (v := .int .i64 k) hH (by simp [go_sem])
    have b1 := past_cells HB1.out (off := 1) (v := .int .i64 p) hH (by simp [go_sem])
    have b2 := past_cells HB1.out (off := 2) (v := .string ⟨n.toArray⟩) hH (by simp [go_sem])
    have b3 := past_cells HB1.out (off := 3) (v := .int .i64 m) hH (by simp [go_sem])
    have b4 := past_cells HB1.out (off := 4) (v := v) hH (by simp [go_sem])
    go_wp2_with fail
    refine (HL.out _).mono ?_
    rintro en w2 ⟨rfl, HB2⟩
    go_wp2_with fail
    go_ret
    exact str_fin rfl ((Below.alloc (Below.refl V.heap.size V) (Nat.le_refl _) _).trans ((HB1.out.mono (Nat.le_of_lt hH)).trans (HB2.out.mono (Nat.le_trans (Nat.le_of_lt hH) HB1.out.size))))
end Go.Proofs.YtddnnlldkdljoaaGreatDoor

namespace Go.Proofs.YtddnnlldkdljoaaGreatDoor
open Go.RowKit

set_option maxRecDepth 100000 in
set_option maxHeartbeats 16000000 in
theorem wk_let (w : World) (p m : Int) (nm : ByteArray) (g o c : Nat) (k0 p0 : Int) (n0 : ByteArray) (m0 : Int) (v0 : Value) (k1 p1 : Int) (n1 : ByteArray) (m1 : Int) (v1 : Value) (x0 : List UInt8) (x1 : List UInt8) (_hc : 2 ≤ c) (hN : nm.size ≤ 1000000000) (hg : g < w.heap.size) (E0 : Nod w g (o) k0 p0 n0 m0 v0) (E1 : Nod w g (o + 5) k1 p1 n1 m1 v1) (hx0 : x0.length ≤ 1000000000) (h0 : WOK w (Value.agg #[.int .i64 k0, .int .i64 p0, .string n0, .int .i64 m0, v0]) x0) (hx1 : x1.length ≤ 1000000000) (h1 : WOK w (Value.agg #[.int .i64 k1, .int .i64 p1, .string n1, .int .i64 m1, v1]) x1) (hm : ¬ m = 1) :
    Calls Tryz.prog 10 #[.agg #[.int .i64 9, .int .i64 p, .string nm, .int .i64 m, .slice (some ⟨g, o, none⟩) 2 c]] w fun en w' => StrRes w ([108, 101, 116, 32] ++ nm.data.toList ++ [32, 61, 32] ++ x0 ++ [32, 105, 110, 32] ++ x1) en w' := by
  have H0 := hid h0
  have H1 := hid h1
  clear h0 h1
  go_enter Tryz.func10, Tryz.ntmps10
  go_upto_region 28 with fail
  obtain ⟨W, hW⟩ : ∃ W, W = w.alloc (.cells #[.int .i64 9, .int .i64 p, .string nm, .int .i64 m, .slice (some ⟨g, o, none⟩) 2 c] 24) := ⟨_, rfl⟩
  rw [← hW]
  have HB0 : Hid (Below w.heap.size w W) := by rw [hW]; exact (Below.refl _ _).alloc (Nat.le_refl _) _
  have hH0 : w.heap.size < W.heap.size := by rw [hW]; simp
  have hG0 : g < W.heap.size := by omega
  have b2 : W.cell? ⟨w.heap.size, 2, none⟩ = some (.string nm) := by rw [hW]; simp [go_sem]
  obtain ⟨e00, e01, e02, e03, e04⟩ := E0
  replace e00 := past_cells HB0.out hg e00
  replace e01 := past_cells HB0.out hg e01
  replace e02 := past_cells HB0.out hg e02
  replace e03 := past_cells HB0.out hg e03
  replace e04 := past_cells HB0.out hg e04
  obtain ⟨e10, e11, e12, e13, e14⟩ := E1
  replace e10 := past_cells HB0.out hg e10
  replace e11 := past_cells HB0.out hg e11
  replace e12 := past_cells HB0.out hg e12
  replace e13 := past_cells HB0.out hg e13
  replace e14 := past_cells HB0.out hg e14
  clear hW
  have cs0 : (⟨#[32, 61, 32]⟩ : ByteArray).size = 3 := rfl
  have cs1 : (⟨#[32, 105, 110, 32]⟩ : ByteArray).size = 4 := rfl
  have cs2 : (⟨#[108, 101, 116, 32]⟩ : ByteArray).size = 4 := rfl
  have kc0 := fun (W : World) => run_string_add_sum (P := Tryz.prog) W (⟨#[108, 101, 116, 32]⟩) (nm) (by simp only [cs2]; omega)
  have kc1 := fun (W : World) => run_string_add_sum (P := Tryz.prog) W (⟨#[108, 101, 116, 32]⟩ ++ nm) (⟨#[32, 61, 32]⟩) (by simp only [ByteArray.size_append, cs0, cs2]; omega)
  have kc2 := fun (W : World) => run_string_add_sum (P := Tryz.prog) W (⟨#[108, 101, 116, 32]⟩ ++ nm ++ ⟨#[32, 61, 32]⟩) (⟨x0.toArray⟩) (by simp only [ByteArray.size_append, size_mk, cs0, cs2]; omega)
  have kc3 := fun (W : World) => run_string_add_sum (P := Tryz.prog) W (⟨#[108, 101, 116, 32]⟩ ++ nm ++ ⟨#[32, 61, 32]⟩ ++ ⟨x0.toArray⟩) (⟨#[32, 105, 110, 32]⟩) (by simp only [ByteArray.size_append, size_mk, cs0, cs1, cs2]; omega)
  have kc4 := fun (W : World) => run_string_add_sum (P := Tryz.prog) W (⟨#[108, 101, 116, 32]⟩ ++ nm ++ ⟨#[32, 61, 32]⟩ ++ ⟨x0.toArray⟩ ++ ⟨#[32, 105, 110, 32]⟩) (⟨x1.toArray⟩) (by simp only [ByteArray.size_append, size_mk, cs0, cs1, cs2]; omega)
  clear cs0  cs1  cs2
  go_region_held3 (fun w' => w'.cell? ⟨w.heap.size, 2, none⟩ = some (.string nm) ∧ w'.cell? ⟨g, o, none⟩ = some (.int .i64 k0) ∧ w'.cell? ⟨g, o + 1, none⟩ = some (.int .i64 p0) ∧ w'.cell? ⟨g, o + 2, none⟩ = some (.string n0) ∧ w'.cell? ⟨g, o + 3, none⟩ = some (.int .i64 m0) ∧ w'.cell? ⟨g, o + 4, none⟩ = some (v0) ∧ w'.cell? ⟨g, o + 5, none⟩ = some (.int .i64 k1) ∧ w'.cell? ⟨g, o + 5 + 1, none⟩ = some (.int .i64 p1) ∧ w'.cell? ⟨g, o + 5 + 2, none⟩ = some (.string n1) ∧ w'.cell? ⟨g, o + 5 + 3, none⟩ = some (.int .i64 m1) ∧ w'.cell? ⟨g, o + 5 + 4, none⟩ = some (v1)) (go_keep)
    ((first
      | (go_at_call_of 10 (Value.agg #[.int .i64 k0, .int .i64 p0, .string n0, .int .i64 m0, v0]); refine (H0.out _ (by repeat (with_reducible (first | exact HB0.out | apply Below.drew)))).mono ?_; rintro en w1 ⟨rfl, HC1⟩
         have HB1 : Hid (Below w.heap.size w w1) := Below.trans (by repeat (with_reducible (first | exact HB0.out | apply Below.drew))) (HC1.out.mono (Nat.le_of_lt hH0))
         have hH1 : w.heap.size < w1.heap.size := Nat.lt_of_lt_of_le hH0 HC1.out.size
         have hG1 : g < w1.heap.size := Nat.lt_of_lt_of_le hG0 HC1.out.size
         have b2_1 := past_cells HC1.out hH0 b2
         have e00_1 := past_cells HC1.out hG0 e00
         have e01_1 := past_cells HC1.out hG0 e01
         have e02_1 := past_cells HC1.out hG0 e02
         have e03_1 := past_cells HC1.out hG0 e03
         have e04_1 := past_cells HC1.out hG0 e04
         have e10_1 := past_cells HC1.out hG0 e10
         have e11_1 := past_cells HC1.out hG0 e11
         have e12_1 := past_cells HC1.out hG0 e12
         have e13_1 := past_cells HC1.out hG0 e13
         have e14_1 := past_cells HC1.out hG0 e14)
      | (go_at_call_of 10 (Value.agg #[.int .i64 k1, .int .i64 p1, .string n1, .int .i64 m1, v1]); refine (H1.out _ (by repeat (with_reducible (first | exact HB1.out | apply Below.drew)))).mono ?_; rintro en w2 ⟨rfl, HC2⟩
         have HB2 : Hid (Below w.heap.size w w2) := Below.trans (by repeat (with_reducible (first | exact HB1.out | apply Below.drew))) (HC2.out.mono (Nat.le_of_lt hH1))
         have hH2 : w.heap.size < w2.heap.size := Nat.lt_of_lt_of_le hH1 HC2.out.size
         have hG2 : g < w2.heap.size := Nat.lt_of_lt_of_le hG1 HC2.out.size
         have b2_2 := past_cells HC2.out hH1 b2_1
         have e00_2 := past_cells HC2.out hG1 e00_1
         have e01_2 := past_cells HC2.out hG1 e01_1
         have e02_2 := past_cells HC2.out hG1 e02_1
         have e03_2 := past_cells HC2.out hG1 e03_1
         have e04_2 := past_cells HC2.out hG1 e04_1
         have e10_2 := past_cells HC2.out hG1 e10_1
         have e11_2 := past_cells HC2.out hG1 e11_1
         have e12_2 := past_cells HC2.out hG1 e12_1
         have e13_2 := past_cells HC2.out hG1 e13_1
         have e14_2 := past_cells HC2.out hG1 e14_1)))
  all_goals
    go_wp2_with fail
    go_ret
    refine str_fin (by simp [ByteArray.data_append]) ?_
    repeat (with_reducible (first | exact HB2.out | apply Below.drew))

set_option maxRecDepth 100000 in
set_option maxHeartbeats 16000000 in
theorem wk_rec (w : World) (p : Int) (nm : ByteArray) (g o c : Nat) (k0 p0 : Int) (n0 : ByteArray) (m0 : Int) (v0 : Value) (k1 p1 : Int) (n1 : ByteArray) (m1 : Int) (v1 : Value) (x0 : List UInt8) (x1 : List UInt8) (_hc : 2 ≤ c) (hN : nm.size ≤ 1000000000) (hg : g < w.heap.size) (E0 : Nod w g (o) k0 p0 n0 m0 v0) (E1 : Nod w g (o + 5) k1 p1 n1 m1 v1) (hx0 : x0.length ≤ 1000000000) (h0 : DOK w (Value.agg #[.int .i64 k0, .int .i64 p0, .string n0, .int .i64 m0, v0]) x0) (hx1 : x1.length ≤ 1000000000) (h1 : WOK w (Value.agg #[.int .i64 k1, .int .i64 p1, .string n1, .int .i64 m1, v1]) x1)  :
    Calls Tryz.prog 10 #[.agg #[.int .i64 9, .int .i64 p, .string nm, .int .i64 1, .slice (some ⟨g, o, none⟩) 2 c]] w fun en w' => StrRes w ([108, 101, 116, 32, 114, 101, 99, 32] ++ nm.data.toList ++ [32] ++ x0 ++ [32, 105, 110, 32] ++ x1) en w' := by
  have H0 := hid h0
  have H1 := hid h1
  clear h0 h1
  go_enter Tryz.func10, Tryz.ntmps10
  go_upto_region 27 with fail
  obtain ⟨W, hW⟩ : ∃ W, W = w.alloc (.cells #[.int .i64 9, .int .i64 p, .string nm, .int .i64 1, .slice (some ⟨g, o, none⟩) 2 c] 24) := ⟨_, rfl⟩
  rw [← hW]
  have HB0 : Hid (Below w.heap.size w W) := by rw [hW]; exact (Below.refl _ _).alloc (Nat.le_refl _) _
  have hH0 : w.heap.size < W.heap.size := by rw [hW]; simp
  have hG0 : g < W.heap.size := by omega
  have b2 : W.cell? ⟨w.heap.size, 2, none⟩ = some (.string nm) := by rw [hW]; simp [go_sem]
  obtain ⟨e00, e01, e02, e03, e04⟩ := E0
  replace e00 := past_cells HB0.out hg e00
  replace e01 := past_cells HB0.out hg e01
  replace e02 := past_cells HB0.out hg e02
  replace e03 := past_cells HB0.out hg e03
  replace e04 := past_cells HB0.out hg e04
  obtain ⟨e10, e11, e12, e13, e14⟩ := E1
  replace e10 := past_cells HB0.out hg e10
  replace e11 := past_cells HB0.out hg e11
  replace e12 := past_cells HB0.out hg e12
  replace e13 := past_cells HB0.out hg e13
  replace e14 := past_cells HB0.out hg e14
  clear hW
  have cs0 : (⟨#[32]⟩ : ByteArray).size = 1 := rfl
  have cs1 : (⟨#[32, 105, 110, 32]⟩ : ByteArray).size = 4 := rfl
  have cs2 : (⟨#[108, 101, 116, 32, 114, 101, 99, 32]⟩ : ByteArray).size = 8 := rfl
  have kc0 := fun (W : World) => run_string_add_sum (P := Tryz.prog) W (⟨#[108, 101, 116, 32, 114, 101, 99, 32]⟩) (nm) (by simp only [cs2]; omega)
  have kc1 := fun (W : World) => run_string_add_sum (P := Tryz.prog) W (⟨#[108, 101, 116, 32, 114, 101, 99, 32]⟩ ++ nm) (⟨#[32]⟩) (by simp only [ByteArray.size_append, cs0, cs2]; omega)
  have kc2 := fun (W : World) => run_string_add_sum (P := Tryz.prog) W (⟨#[108, 101, 116, 32, 114, 101, 99, 32]⟩ ++ nm ++ ⟨#[32]⟩) (⟨x0.toArray⟩) (by simp only [ByteArray.size_append, size_mk, cs0, cs2]; omega)
  have kc3 := fun (W : World) => run_string_add_sum (P := Tryz.prog) W (⟨#[108, 101, 116, 32, 114, 101, 99, 32]⟩ ++ nm ++ ⟨#[32]⟩ ++ ⟨x0.toArray⟩) (⟨#[32, 105, 110, 32]⟩) (by simp only [ByteArray.size_append, size_mk, cs0, cs1, cs2]; omega)
  have kc4 := fun (W : World) => run_string_add_sum (P := Tryz.prog) W (⟨#[108, 101, 116, 32, 114, 101, 99, 32]⟩ ++ nm ++ ⟨#[32]⟩ ++ ⟨x0.toArray⟩ ++ ⟨#[32, 105, 110, 32]⟩) (⟨x1.toArray⟩) (by simp only [ByteArray.size_append, size_mk, cs0, cs1, cs2]; omega)
  clear cs0  cs1  cs2
  go_region_held3 (fun w' => w'.cell? ⟨w.heap.size, 2, none⟩ = some (.string nm) ∧ w'.cell? ⟨g, o, none⟩ = some (.int .i64 k0) ∧ w'.cell? ⟨g, o + 1, none⟩ = some (.int .i64 p0) ∧ w'.cell? ⟨g, o + 2, none⟩ = some (.string n0) ∧ w'.cell? ⟨g, o + 3, none⟩ = some (.int .i64 m0) ∧ w'.cell? ⟨g, o + 4, none⟩ = some (v0) ∧ w'.cell? ⟨g, o + 5, none⟩ = some (.int .i64 k1) ∧ w'.cell? ⟨g, o + 5 + 1, none⟩ = some (.int .i64 p1) ∧ w'.cell? ⟨g, o + 5 + 2, none⟩ = some (.string n1) ∧ w'.cell? ⟨g, o + 5 + 3, none⟩ = some (.int .i64 m1) ∧ w'.cell? ⟨g, o + 5 + 4, none⟩ = some (v1)) (go_keep)
    ((first
      | (go_at_call_of 25 (Value.agg #[.int .i64 k0, .int .i64 p0, .string n0, .int .i64 m0, v0]); refine (H0.out _ (by repeat (with_reducible (first | exact HB0.out | apply Below.drew)))).mono ?_; rintro en w1 ⟨rfl, HC1⟩
         have HB1 : Hid (Below w.heap.size w w1) := Below.trans (by repeat (with_reducible (first | exact HB0.out | apply Below.drew))) (HC1.out.mono (Nat.le_of_lt hH0))
         have hH1 : w.heap.size < w1.heap.size := Nat.lt_of_lt_of_le hH0 HC1.out.size
         have hG1 : g < w1.heap.size := Nat.lt_of_lt_of_le hG0 HC1.out.size
         have b2_1 := past_cells HC1.out hH0 b2
         have e00_1 := past_cells HC1.out hG0 e00
         have e01_1 := past_cells HC1.out hG0 e01
         have e02_1 := past_cells HC1.out hG0 e02
         have e03_1 := past_cells HC1.out hG0 e03
         have e04_1 := past_cells HC1.out hG0 e04
         have e10_1 := past_cells HC1.out hG0 e10
         have e11_1 := past_cells HC1.out hG0 e11
         have e12_1 := past_cells HC1.out hG0 e12
         have e13_1 := past_cells HC1.out hG0 e13
         have e14_1 := past_cells HC1.out hG0 e14)
      | (go_at_call_of 10 (Value.agg #[.int .i64 k1, .int .i64 p1, .string n1, .int .i64 m1, v1]); refine (H1.out _ (by repeat (with_reducible (first | exact HB1.out | apply Below.drew)))).mono ?_; rintro en w2 ⟨rfl, HC2⟩
         have HB2 : Hid (Below w.heap.size w w2) := Below.trans (by repeat (with_reducible (first | exact HB1.out | apply Below.drew))) (HC2.out.mono (Nat.le_of_lt hH1))
         have hH2 : w.heap.size < w2.heap.size := Nat.lt_of_lt_of_le hH1 HC2.out.size
         have hG2 : g < w2.heap.size := Nat.lt_of_lt_of_le hG1 HC2.out.size
         have b2_2 := past_cells HC2.out hH1 b2_1
         have e00_2 := past_cells HC2.out hG1 e00_1
         have e01_2 := past_cells HC2.out hG1 e01_1
         have e02_2 := past_cells HC2.out hG1 e02_1
         have e03_2 := past_cells HC2.out hG1 e03_1
         have e04_2 := past_cells HC2.out hG1 e04_1
         have e10_2 := past_cells HC2.out hG1 e10_1
         have e11_2 := past_cells HC2.out hG1 e11_1
         have e12_2 := past_cells HC2.out hG1 e12_1
         have e13_2 := past_cells HC2.out hG1 e13_1
         have e14_2 := past_cells HC2.out hG1 e14_1)))
  all_goals
    go_wp2_with fail
    go_ret
    refine str_fin (by simp [ByteArray.data_append]) ?_
    repeat (with_reducible (first | exact HB2.out | apply Below.drew))

set_option maxRecDepth 100000 in
set_option maxHeartbeats 16000000 in
theorem wk_def (w : World) (p m : Int) (nm : ByteArray) (g o c : Nat) (k0 p0 : Int) (n0 : ByteArray) (m0 : Int) (v0 : Value) (x0 : List UInt8) (_hc : 1 ≤ c) (hN : nm.size ≤ 1000000000) (hg : g < w.heap.size) (E0 : Nod w g (o) k0 p0 n0 m0 v0) (hx0 : x0.length ≤ 1000000000) (h0 : WOK w (Value.agg #[.int .i64 k0, .int .i64 p0, .string n0, .int .i64 m0, v0]) x0)  :
    Calls Tryz.prog 25 #[.agg #[.int .i64 7, .int .i64 p, .string nm, .int .i64 m, .slice (some ⟨g, o, none⟩) 1 c]] w fun en w' => StrRes w (nm.data.toList ++ [32, 61, 32] ++ x0) en w' := by
  have H0 := hid h0
  clear h0
  go_enter Tryz.func25, Tryz.ntmps25
  go_upto_region 3 with fail
  obtain ⟨W, hW⟩ : ∃ W, W = w.alloc (.cells #[.int .i64 7, .int .i64 p, .string nm, .int .i64 m, .slice (some ⟨g, o, none⟩) 1 c] 24) := ⟨_, rfl⟩
  rw [← hW]
  have HB0 : Hid (Below w.heap.size w W) := by rw [hW]; exact (Below.refl _ _).alloc (Nat.le_refl _) _
  have hH0 : w.heap.size < W.heap.size := by rw [hW]; simp
  have hG0 : g < W.heap.size := by omega
  have b2 : W.cell? ⟨w.heap.size, 2, none⟩ = some (.string nm) := by rw [hW]; simp [go_sem]
  have b4 : W.cell? ⟨w.heap.size, 4, none⟩ = some (.slice (some ⟨g, o, none⟩) 1 c) := by rw [hW]; simp [go_sem]
  obtain ⟨e00, e01, e02, e03, e04⟩ := E0
  replace e00 := past_cells HB0.out hg e00
  replace e01 := past_cells HB0.out hg e01
  replace e02 := past_cells HB0.out hg e02
  replace e03 := past_cells HB0.out hg e03
  replace e04 := past_cells HB0.out hg e04
  clear hW
  have cs0 : (⟨#[32, 61, 32]⟩ : ByteArray).size = 3 := rfl
  have kc0 := fun (W : World) => run_string_add_sum (P := Tryz.prog) W (nm) (⟨#[32, 61, 32]⟩) (by simp only [cs0]; omega)
  have kc1 := fun (W : World) => run_string_add_sum (P := Tryz.prog) W (nm ++ ⟨#[32, 61, 32]⟩) (⟨x0.toArray⟩) (by simp only [ByteArray.size_append, size_mk, cs0]; omega)
  clear cs0
  go_region_held3 (fun w' => w'.cell? ⟨w.heap.size, 2, none⟩ = some (.string nm) ∧ w'.cell? ⟨w.heap.size, 4, none⟩ = some (.slice (some ⟨g, o, none⟩) 1 c) ∧ w'.cell? ⟨g, o, none⟩ = some (.int .i64 k0) ∧ w'.cell? ⟨g, o + 1, none⟩ = some (.int .i64 p0) ∧ w'.cell? ⟨g, o + 2, none⟩ = some (.string n0) ∧ w'.cell? ⟨g, o + 3, none⟩ = some (.int .i64 m0) ∧ w'.cell? ⟨g, o + 4, none⟩ = some (v0)) (go_keep)
    ((first
      | (go_at_call_of 10 (Value.agg #[.int .i64 k0, .int .i64 p0, .string n0, .int .i64 m0, v0]); refine (H0.out _ (by repeat (with_reducible (first | exact HB0.out | apply Below.drew)))).mono ?_; rintro en w1 ⟨rfl, HC1⟩
         have HB1 : Hid (Below w.heap.size w w1) := Below.trans (by repeat (with_reducible (first | exact HB0.out | apply Below.drew))) (HC1.out.mono (Nat.le_of_lt hH0))
         have hH1 : w.heap.size < w1.heap.size := Nat.lt_of_lt_of_le hH0 HC1.out.size
         have hG1 : g < w1.heap.size := Nat.lt_of_lt_of_le hG0 HC1.out.size
         have b2_1 := past_cells HC1.out hH0 b2
         have b4_1 := past_cells HC1.out hH0 b4
         have e00_1 := past_cells HC1.out hG0 e00
         have e01_1 := past_cells HC1.out hG0 e01
         have e02_1 := past_cells HC1.out hG0 e02
         have e03_1 := past_cells HC1.out hG0 e03
         have e04_1 := past_cells HC1.out hG0 e04)))
  all_goals
    go_wp2_with fail
    go_ret
    refine str_fin (by simp [ByteArray.data_append]) ?_
    repeat (with_reducible (first | exact HB1.out | apply Below.drew))
end Go.Proofs.YtddnnlldkdljoaaGreatDoor

namespace Go.Proofs.YtddnnlldkdljoaaGreatDoor
open Go.RowKit

set_option maxRecDepth 100000 in
set_option maxHeartbeats 16000000 in
theorem wk_op1 (w : World) (p m : Int) (nm : ByteArray) (g o c : Nat) (k0 p0 : Int) (n0 : ByteArray) (m0 : Int) (v0 : Value) (k1 p1 : Int) (n1 : ByteArray) (m1 : Int) (v1 : Value) (x0 : List UInt8) (x1 : List UInt8) (_hc : 2 ≤ c) (hN : nm.size ≤ 1000000000) (hg : g < w.heap.size) (E0 : Nod w g (o) k0 p0 n0 m0 v0) (E1 : Nod w g (o + 5) k1 p1 n1 m1 v1) (hx0 : x0.length ≤ 1000000000) (h0 : IOK w (Value.agg #[.int .i64 k0, .int .i64 p0, .string n0, .int .i64 m0, v0]) 2 x0) (hx1 : x1.length ≤ 1000000000) (h1 : IOK w (Value.agg #[.int .i64 k1, .int .i64 p1, .string n1, .int .i64 m1, v1]) 2 x1) (nn : List UInt8) (hnm : nm = ⟨nn.toArray⟩) (hlv : levD 18 nn = 1) :
    Calls Tryz.prog 10 #[.agg #[.int .i64 18, .int .i64 p, .string nm, .int .i64 m, .slice (some ⟨g, o, none⟩) 2 c]] w fun en w' => StrRes w (x0 ++ [32] ++ nm.data.toList ++ [32] ++ x1) en w' := by
  have H0 := hid h0
  have H1 := hid h1
  clear h0 h1
  subst hnm
  rw [size_mk] at hN
  go_enter Tryz.func10, Tryz.ntmps10
  go_wp2_with fail
  refine (level_any 18 p m nn _ _).mono ?_
  rintro en wL ⟨rfl, HCL⟩
  rw [hlv]
  go_upto_region 49 with fail
  obtain ⟨W, hW⟩ : ∃ W, W = wL := ⟨_, rfl⟩
  rw [← hW]
  have hHL : w.heap.size < (w.alloc (.cells #[.int .i64 18, .int .i64 p, .string ⟨nn.toArray⟩, .int .i64 m, .slice (some ⟨g, o, none⟩) 2 c] 24)).heap.size := by simp
  have HB0 : Hid (Below w.heap.size w W) := by rw [hW]; exact (Below.alloc (Below.refl w.heap.size w) (Nat.le_refl _) _).trans (HCL.out.mono (Nat.le_of_lt hHL))
  have hH0 : w.heap.size < W.heap.size := by rw [hW]; exact Nat.lt_of_lt_of_le hHL HCL.out.size
  have hG0 : g < W.heap.size := by omega
  have b2 : W.cell? ⟨w.heap.size, 2, none⟩ = some (.string ⟨nn.toArray⟩) := by rw [hW]; exact past_cells HCL.out hHL (by simp [go_sem])
  obtain ⟨e00, e01, e02, e03, e04⟩ := E0
  replace e00 := past_cells HB0.out hg e00
  replace e01 := past_cells HB0.out hg e01
  replace e02 := past_cells HB0.out hg e02
  replace e03 := past_cells HB0.out hg e03
  replace e04 := past_cells HB0.out hg e04
  obtain ⟨e10, e11, e12, e13, e14⟩ := E1
  replace e10 := past_cells HB0.out hg e10
  replace e11 := past_cells HB0.out hg e11
  replace e12 := past_cells HB0.out hg e12
  replace e13 := past_cells HB0.out hg e13
  replace e14 := past_cells HB0.out hg e14
  clear hW
  have cs0 : (⟨#[32]⟩ : ByteArray).size = 1 := rfl
  have kc0 := fun (W : World) => run_string_add_sum (P := Tryz.prog) W (⟨x0.toArray⟩) (⟨#[32]⟩) (by simp only [size_mk, cs0]; omega)
  have kc1 := fun (W : World) => run_string_add_sum (P := Tryz.prog) W (⟨x0.toArray⟩ ++ ⟨#[32]⟩) (⟨nn.toArray⟩) (by simp only [ByteArray.size_append, size_mk, cs0]; omega)
  have kc2 := fun (W : World) => run_string_add_sum (P := Tryz.prog) W (⟨x0.toArray⟩ ++ ⟨#[32]⟩ ++ ⟨nn.toArray⟩) (⟨#[32]⟩) (by simp only [ByteArray.size_append, size_mk, cs0]; omega)
  have kc3 := fun (W : World) => run_string_add_sum (P := Tryz.prog) W (⟨x0.toArray⟩ ++ ⟨#[32]⟩ ++ ⟨nn.toArray⟩ ++ ⟨#[32]⟩) (⟨x1.toArray⟩) (by simp only [ByteArray.size_append, size_mk, cs0]; omega)
  clear cs0
  go_region_held3 (fun w' => w'.cell? ⟨w.heap.size, 2, none⟩ = some (.string ⟨nn.toArray⟩) ∧ w'.cell? ⟨g, o, none⟩ = some (.int .i64 k0) ∧ w'.cell? ⟨g, o + 1, none⟩ = some (.int .i64 p0) ∧ w'.cell? ⟨g, o + 2, none⟩ = some (.string n0) ∧ w'.cell? ⟨g, o + 3, none⟩ = some (.int .i64 m0) ∧ w'.cell? ⟨g, o + 4, none⟩ = some (v0) ∧ w'.cell? ⟨g, o + 5, none⟩ = some (.int .i64 k1) ∧ w'.cell? ⟨g, o + 5 + 1, none⟩ = some (.int .i64 p1) ∧ w'.cell? ⟨g, o + 5 + 2, none⟩ = some (.string n1) ∧ w'.cell? ⟨g, o + 5 + 3, none⟩ = some (.int .i64 m1) ∧ w'.cell? ⟨g, o + 5 + 4, none⟩ = some (v1)) (go_keep)
    ((first
      | (go_at_call_of 24 (Value.agg #[.int .i64 k0, .int .i64 p0, .string n0, .int .i64 m0, v0]); refine (H0.out _ (by repeat (with_reducible (first | exact HB0.out | apply Below.drew)))).mono ?_; rintro en w1 ⟨rfl, HC1⟩
         have HB1 : Hid (Below w.heap.size w w1) := Below.trans (by repeat (with_reducible (first | exact HB0.out | apply Below.drew))) (HC1.out.mono (Nat.le_of_lt hH0))
         have hH1 : w.heap.size < w1.heap.size := Nat.lt_of_lt_of_le hH0 HC1.out.size
         have hG1 : g < w1.heap.size := Nat.lt_of_lt_of_le hG0 HC1.out.size
         have b2_1 := past_cells HC1.out hH0 b2
         have e00_1 := past_cells HC1.out hG0 e00
         have e01_1 := past_cells HC1.out hG0 e01
         have e02_1 := past_cells HC1.out hG0 e02
         have e03_1 := past_cells HC1.out hG0 e03
         have e04_1 := past_cells HC1.out hG0 e04
         have e10_1 := past_cells HC1.out hG0 e10
         have e11_1 := past_cells HC1.out hG0 e11
         have e12_1 := past_cells HC1.out hG0 e12
         have e13_1 := past_cells HC1.out hG0 e13
         have e14_1 := past_cells HC1.out hG0 e14)
      | (go_at_call_of 24 (Value.agg #[.int .i64 k1, .int .i64 p1, .string n1, .int .i64 m1, v1]); refine (H1.out _ (by repeat (with_reducible (first | exact HB1.out | apply Below.drew)))).mono ?_; rintro en w2 ⟨rfl, HC2⟩
         have HB2 : Hid (Below w.heap.size w w2) := Below.trans (by repeat (with_reducible (first | exact HB1.out | apply Below.drew))) (HC2.out.mono (Nat.le_of_lt hH1))
         have hH2 : w.heap.size < w2.heap.size := Nat.lt_of_lt_of_le hH1 HC2.out.size
         have hG2 : g < w2.heap.size := Nat.lt_of_lt_of_le hG1 HC2.out.size
         have b2_2 := past_cells HC2.out hH1 b2_1
         have e00_2 := past_cells HC2.out hG1 e00_1
         have e01_2 := past_cells HC2.out hG1 e01_1
         have e02_2 := past_cells HC2.out hG1 e02_1
         have e03_2 := past_cells HC2.out hG1 e03_1
         have e04_2 := past_cells HC2.out hG1 e04_1
         have e10_2 := past_cells HC2.out hG1 e10_1
         have e11_2 := past_cells HC2.out hG1 e11_1
         have e12_2 := past_cells HC2.out hG1 e12_1
         have e13_2 := past_cells HC2.out hG1 e13_1
         have e14_2 := past_cells HC2.out hG1 e14_1)))
  all_goals
    go_wp2_with fail
    go_ret
    refine str_fin (by simp [ByteArray.data_append]) ?_
    repeat (with_reducible (first | exact HB2.out | apply Below.drew))

set_option maxRecDepth 100000 in
set_option maxHeartbeats 16000000 in
theorem wk_op3 (w : World) (p m : Int) (nm : ByteArray) (g o c : Nat) (k0 p0 : Int) (n0 : ByteArray) (m0 : Int) (v0 : Value) (k1 p1 : Int) (n1 : ByteArray) (m1 : Int) (v1 : Value) (x0 : List UInt8) (x1 : List UInt8) (_hc : 2 ≤ c) (hN : nm.size ≤ 1000000000) (hg : g < w.heap.size) (E0 : Nod w g (o) k0 p0 n0 m0 v0) (E1 : Nod w g (o + 5) k1 p1 n1 m1 v1) (hx0 : x0.length ≤ 1000000000) (h0 : IOK w (Value.agg #[.int .i64 k0, .int .i64 p0, .string n0, .int .i64 m0, v0]) 3 x0) (hx1 : x1.length ≤ 1000000000) (h1 : IOK w (Value.agg #[.int .i64 k1, .int .i64 p1, .string n1, .int .i64 m1, v1]) 4 x1) (nn : List UInt8) (hnm : nm = ⟨nn.toArray⟩) (hlv : levD 18 nn = 3) :
    Calls Tryz.prog 10 #[.agg #[.int .i64 18, .int .i64 p, .string nm, .int .i64 m, .slice (some ⟨g, o, none⟩) 2 c]] w fun en w' => StrRes w (x0 ++ [32] ++ nm.data.toList ++ [32] ++ x1) en w' := by
  have H0 := hid h0
  have H1 := hid h1
  clear h0 h1
  subst hnm
  rw [size_mk] at hN
  go_enter Tryz.func10, Tryz.ntmps10
  go_wp2_with fail
  refine (level_any 18 p m nn _ _).mono ?_
  rintro en wL ⟨rfl, HCL⟩
  rw [hlv]
  go_upto_region 51 with fail
  obtain ⟨W, hW⟩ : ∃ W, W = wL := ⟨_, rfl⟩
  rw [← hW]
  have hHL : w.heap.size < (w.alloc (.cells #[.int .i64 18, .int .i64 p, .string ⟨nn.toArray⟩, .int .i64 m, .slice (some ⟨g, o, none⟩) 2 c] 24)).heap.size := by simp
  have HB0 : Hid (Below w.heap.size w W) := by rw [hW]; exact (Below.alloc (Below.refl w.heap.size w) (Nat.le_refl _) _).trans (HCL.out.mono (Nat.le_of_lt hHL))
  have hH0 : w.heap.size < W.heap.size := by rw [hW]; exact Nat.lt_of_lt_of_le hHL HCL.out.size
  have hG0 : g < W.heap.size := by omega
  have b2 : W.cell? ⟨w.heap.size, 2, none⟩ = some (.string ⟨nn.toArray⟩) := by rw [hW]; exact past_cells HCL.out hHL (by simp [go_sem])
  obtain ⟨e00, e01, e02, e03, e04⟩ := E0
  replace e00 := past_cells HB0.out hg e00
  replace e01 := past_cells HB0.out hg e01
  replace e02 := past_cells HB0.out hg e02
  replace e03 := past_cells HB0.out hg e03
  replace e04 := past_cells HB0.out hg e04
  obtain ⟨e10, e11, e12, e13, e14⟩ := E1
  replace e10 := past_cells HB0.out hg e10
  replace e11 := past_cells HB0.out hg e11
  replace e12 := past_cells HB0.out hg e12
  replace e13 := past_cells HB0.out hg e13
  replace e14 := past_cells HB0.out hg e14
  clear hW
  have cs0 : (⟨#[32]⟩ : ByteArray).size = 1 := rfl
  have kc0 := fun (W : World) => run_string_add_sum (P := Tryz.prog) W (⟨x0.toArray⟩) (⟨#[32]⟩) (by simp only [size_mk, cs0]; omega)
  have kc1 := fun (W : World) => run_string_add_sum (P := Tryz.prog) W (⟨x0.toArray⟩ ++ ⟨#[32]⟩) (⟨nn.toArray⟩) (by simp only [ByteArray.size_append, size_mk, cs0]; omega)
  have kc2 := fun (W : World) => run_string_add_sum (P := Tryz.prog) W (⟨x0.toArray⟩ ++ ⟨#[32]⟩ ++ ⟨nn.toArray⟩) (⟨#[32]⟩) (by simp only [ByteArray.size_append, size_mk, cs0]; omega)
  have kc3 := fun (W : World) => run_string_add_sum (P := Tryz.prog) W (⟨x0.toArray⟩ ++ ⟨#[32]⟩ ++ ⟨nn.toArray⟩ ++ ⟨#[32]⟩) (⟨x1.toArray⟩) (by simp only [ByteArray.size_append, size_mk, cs0]; omega)
  clear cs0
  go_region_held3 (fun w' => w'.cell? ⟨w.heap.size, 2, none⟩ = some (.string ⟨nn.toArray⟩) ∧ w'.cell? ⟨g, o, none⟩ = some (.int .i64 k0) ∧ w'.cell? ⟨g, o + 1, none⟩ = some (.int .i64 p0) ∧ w'.cell? ⟨g, o + 2, none⟩ = some (.string n0) ∧ w'.cell? ⟨g, o + 3, none⟩ = some (.int .i64 m0) ∧ w'.cell? ⟨g, o + 4, none⟩ = some (v0) ∧ w'.cell? ⟨g, o + 5, none⟩ = some (.int .i64 k1) ∧ w'.cell? ⟨g, o + 5 + 1, none⟩ = some (.int .i64 p1) ∧ w'.cell? ⟨g, o + 5 + 2, none⟩ = some (.string n1) ∧ w'.cell? ⟨g, o + 5 + 3, none⟩ = some (.int .i64 m1) ∧ w'.cell? ⟨g, o + 5 + 4, none⟩ = some (v1)) (go_keep)
    ((first
      | (go_at_call_of 24 (Value.agg #[.int .i64 k0, .int .i64 p0, .string n0, .int .i64 m0, v0]); refine (H0.out _ (by repeat (with_reducible (first | exact HB0.out | apply Below.drew)))).mono ?_; rintro en w1 ⟨rfl, HC1⟩
         have HB1 : Hid (Below w.heap.size w w1) := Below.trans (by repeat (with_reducible (first | exact HB0.out | apply Below.drew))) (HC1.out.mono (Nat.le_of_lt hH0))
         have hH1 : w.heap.size < w1.heap.size := Nat.lt_of_lt_of_le hH0 HC1.out.size
         have hG1 : g < w1.heap.size := Nat.lt_of_lt_of_le hG0 HC1.out.size
         have b2_1 := past_cells HC1.out hH0 b2
         have e00_1 := past_cells HC1.out hG0 e00
         have e01_1 := past_cells HC1.out hG0 e01
         have e02_1 := past_cells HC1.out hG0 e02
         have e03_1 := past_cells HC1.out hG0 e03
         have e04_1 := past_cells HC1.out hG0 e04
         have e10_1 := past_cells HC1.out hG0 e10
         have e11_1 := past_cells HC1.out hG0 e11
         have e12_1 := past_cells HC1.out hG0 e12
         have e13_1 := past_cells HC1.out hG0 e13
         have e14_1 := past_cells HC1.out hG0 e14)
      | (go_at_call_of 24 (Value.agg #[.int .i64 k1, .int .i64 p1, .string n1, .int .i64 m1, v1]); refine (H1.out _ (by repeat (with_reducible (first | exact HB1.out | apply Below.drew)))).mono ?_; rintro en w2 ⟨rfl, HC2⟩
         have HB2 : Hid (Below w.heap.size w w2) := Below.trans (by repeat (with_reducible (first | exact HB1.out | apply Below.drew))) (HC2.out.mono (Nat.le_of_lt hH1))
         have hH2 : w.heap.size < w2.heap.size := Nat.lt_of_lt_of_le hH1 HC2.out.size
         have hG2 : g < w2.heap.size := Nat.lt_of_lt_of_le hG1 HC2.out.size
         have b2_2 := past_cells HC2.out hH1 b2_1
         have e00_2 := past_cells HC2.out hG1 e00_1
         have e01_2 := past_cells HC2.out hG1 e01_1
         have e02_2 := past_cells HC2.out hG1 e02_1
         have e03_2 := past_cells HC2.out hG1 e03_1
         have e04_2 := past_cells HC2.out hG1 e04_1
         have e10_2 := past_cells HC2.out hG1 e10_1
         have e11_2 := past_cells HC2.out hG1 e11_1
         have e12_2 := past_cells HC2.out hG1 e12_1
         have e13_2 := past_cells HC2.out hG1 e13_1
         have e14_2 := past_cells HC2.out hG1 e14_1)))
  all_goals
    go_wp2_with fail
    go_ret
    refine str_fin (by simp [ByteArray.data_append]) ?_
    repeat (with_reducible (first | exact HB2.out | apply Below.drew))

set_option maxRecDepth 100000 in
set_option maxHeartbeats 16000000 in
theorem wk_op4 (w : World) (p m : Int) (nm : ByteArray) (g o c : Nat) (k0 p0 : Int) (n0 : ByteArray) (m0 : Int) (v0 : Value) (k1 p1 : Int) (n1 : ByteArray) (m1 : Int) (v1 : Value) (x0 : List UInt8) (x1 : List UInt8) (_hc : 2 ≤ c) (hN : nm.size ≤ 1000000000) (hg : g < w.heap.size) (E0 : Nod w g (o) k0 p0 n0 m0 v0) (E1 : Nod w g (o + 5) k1 p1 n1 m1 v1) (hx0 : x0.length ≤ 1000000000) (h0 : IOK w (Value.agg #[.int .i64 k0, .int .i64 p0, .string n0, .int .i64 m0, v0]) 4 x0) (hx1 : x1.length ≤ 1000000000) (h1 : IOK w (Value.agg #[.int .i64 k1, .int .i64 p1, .string n1, .int .i64 m1, v1]) 5 x1) (nn : List UInt8) (hnm : nm = ⟨nn.toArray⟩) (hlv : levD 18 nn = 4) :
    Calls Tryz.prog 10 #[.agg #[.int .i64 18, .int .i64 p, .string nm, .int .i64 m, .slice (some ⟨g, o, none⟩) 2 c]] w fun en w' => StrRes w (x0 ++ [32] ++ nm.data.toList ++ [32] ++ x1) en w' := by
  have H0 := hid h0
  have H1 := hid h1
  clear h0 h1
  subst hnm
  rw [size_mk] at hN
  go_enter Tryz.func10, Tryz.ntmps10
  go_wp2_with fail
  refine (level_any 18 p m nn _ _).mono ?_
  rintro en wL ⟨rfl, HCL⟩
  rw [hlv]
  go_upto_region 52 with fail
  obtain ⟨W, hW⟩ : ∃ W, W = wL := ⟨_, rfl⟩
  rw [← hW]
  have hHL : w.heap.size < (w.alloc (.cells #[.int .i64 18, .int .i64 p, .string ⟨nn.toArray⟩, .int .i64 m, .slice (some ⟨g, o, none⟩) 2 c] 24)).heap.size := by simp
  have HB0 : Hid (Below w.heap.size w W) := by rw [hW]; exact (Below.alloc (Below.refl w.heap.size w) (Nat.le_refl _) _).trans (HCL.out.mono (Nat.le_of_lt hHL))
  have hH0 : w.heap.size < W.heap.size := by rw [hW]; exact Nat.lt_of_lt_of_le hHL HCL.out.size
  have hG0 : g < W.heap.size := by omega
  have b2 : W.cell? ⟨w.heap.size, 2, none⟩ = some (.string ⟨nn.toArray⟩) := by rw [hW]; exact past_cells HCL.out hHL (by simp [go_sem])
  obtain ⟨e00, e01, e02, e03, e04⟩ := E0
  replace e00 := past_cells HB0.out hg e00
  replace e01 := past_cells HB0.out hg e01
  replace e02 := past_cells HB0.out hg e02
  replace e03 := past_cells HB0.out hg e03
  replace e04 := past_cells HB0.out hg e04
  obtain ⟨e10, e11, e12, e13, e14⟩ := E1
  replace e10 := past_cells HB0.out hg e10
  replace e11 := past_cells HB0.out hg e11
  replace e12 := past_cells HB0.out hg e12
  replace e13 := past_cells HB0.out hg e13
  replace e14 := past_cells HB0.out hg e14
  clear hW
  have cs0 : (⟨#[32]⟩ : ByteArray).size = 1 := rfl
  have kc0 := fun (W : World) => run_string_add_sum (P := Tryz.prog) W (⟨x0.toArray⟩) (⟨#[32]⟩) (by simp only [size_mk, cs0]; omega)
  have kc1 := fun (W : World) => run_string_add_sum (P := Tryz.prog) W (⟨x0.toArray⟩ ++ ⟨#[32]⟩) (⟨nn.toArray⟩) (by simp only [ByteArray.size_append, size_mk, cs0]; omega)
  have kc2 := fun (W : World) => run_string_add_sum (P := Tryz.prog) W (⟨x0.toArray⟩ ++ ⟨#[32]⟩ ++ ⟨nn.toArray⟩) (⟨#[32]⟩) (by simp only [ByteArray.size_append, size_mk, cs0]; omega)
  have kc3 := fun (W : World) => run_string_add_sum (P := Tryz.prog) W (⟨x0.toArray⟩ ++ ⟨#[32]⟩ ++ ⟨nn.toArray⟩ ++ ⟨#[32]⟩) (⟨x1.toArray⟩) (by simp only [ByteArray.size_append, size_mk, cs0]; omega)
  clear cs0
  go_region_held3 (fun w' => w'.cell? ⟨w.heap.size, 2, none⟩ = some (.string ⟨nn.toArray⟩) ∧ w'.cell? ⟨g, o, none⟩ = some (.int .i64 k0) ∧ w'.cell? ⟨g, o + 1, none⟩ = some (.int .i64 p0) ∧ w'.cell? ⟨g, o + 2, none⟩ = some (.string n0) ∧ w'.cell? ⟨g, o + 3, none⟩ = some (.int .i64 m0) ∧ w'.cell? ⟨g, o + 4, none⟩ = some (v0) ∧ w'.cell? ⟨g, o + 5, none⟩ = some (.int .i64 k1) ∧ w'.cell? ⟨g, o + 5 + 1, none⟩ = some (.int .i64 p1) ∧ w'.cell? ⟨g, o + 5 + 2, none⟩ = some (.string n1) ∧ w'.cell? ⟨g, o + 5 + 3, none⟩ = some (.int .i64 m1) ∧ w'.cell? ⟨g, o + 5 + 4, none⟩ = some (v1)) (go_keep)
    ((first
      | (go_at_call_of 24 (Value.agg #[.int .i64 k0, .int .i64 p0, .string n0, .int .i64 m0, v0]); refine (H0.out _ (by repeat (with_reducible (first | exact HB0.out | apply Below.drew)))).mono ?_; rintro en w1 ⟨rfl, HC1⟩
         have HB1 : Hid (Below w.heap.size w w1) := Below.trans (by repeat (with_reducible (first | exact HB0.out | apply Below.drew))) (HC1.out.mono (Nat.le_of_lt hH0))
         have hH1 : w.heap.size < w1.heap.size := Nat.lt_of_lt_of_le hH0 HC1.out.size
         have hG1 : g < w1.heap.size := Nat.lt_of_lt_of_le hG0 HC1.out.size
         have b2_1 := past_cells HC1.out hH0 b2
         have e00_1 := past_cells HC1.out hG0 e00
         have e01_1 := past_cells HC1.out hG0 e01
         have e02_1 := past_cells HC1.out hG0 e02
         have e03_1 := past_cells HC1.out hG0 e03
         have e04_1 := past_cells HC1.out hG0 e04
         have e10_1 := past_cells HC1.out hG0 e10
         have e11_1 := past_cells HC1.out hG0 e11
         have e12_1 := past_cells HC1.out hG0 e12
         have e13_1 := past_cells HC1.out hG0 e13
         have e14_1 := past_cells HC1.out hG0 e14)
      | (go_at_call_of 24 (Value.agg #[.int .i64 k1, .int .i64 p1, .string n1, .int .i64 m1, v1]); refine (H1.out _ (by repeat (with_reducible (first | exact HB1.out | apply Below.drew)))).mono ?_; rintro en w2 ⟨rfl, HC2⟩
         have HB2 : Hid (Below w.heap.size w w2) := Below.trans (by repeat (with_reducible (first | exact HB1.out | apply Below.drew))) (HC2.out.mono (Nat.le_of_lt hH1))
         have hH2 : w.heap.size < w2.heap.size := Nat.lt_of_lt_of_le hH1 HC2.out.size
         have hG2 : g < w2.heap.size := Nat.lt_of_lt_of_le hG1 HC2.out.size
         have b2_2 := past_cells HC2.out hH1 b2_1
         have e00_2 := past_cells HC2.out hG1 e00_1
         have e01_2 := past_cells HC2.out hG1 e01_1
         have e02_2 := past_cells HC2.out hG1 e02_1
         have e03_2 := past_cells HC2.out hG1 e03_1
         have e04_2 := past_cells HC2.out hG1 e04_1
         have e10_2 := past_cells HC2.out hG1 e10_1
         have e11_2 := past_cells HC2.out hG1 e11_1
         have e12_2 := past_cells HC2.out hG1 e12_1
         have e13_2 := past_cells HC2.out hG1 e13_1
         have e14_2 := past_cells HC2.out hG1 e14_1)))
  all_goals
    go_wp2_with fail
    go_ret
    refine str_fin (by simp [ByteArray.data_append]) ?_
    repeat (with_reducible (first | exact HB2.out | apply Below.drew))
end Go.Proofs.YtddnnlldkdljoaaGreatDoor
