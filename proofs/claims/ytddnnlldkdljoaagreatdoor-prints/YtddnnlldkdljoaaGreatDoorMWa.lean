/-
  What the document writes of a node: fn, seq.
  What the document writes of a node: if, pair, cons.
  What the document writes of a node: case, do, pairs of types.
-/
import Derived.Test.YtddnnlldkdljoaaGreatDoorMMem
namespace Go.Proofs.YtddnnlldkdljoaaGreatDoor
open Go.RowKit

set_option maxRecDepth 100000 in
set_option maxHeartbeats 16000000 in
theorem wk_fn (w : World) (p m : Int) (nm : ByteArray) (g o c : Nat) (k0 p0 : Int) (n0 : ByteArray) (m0 : Int) (v0 : Value) (x0 : List UInt8) (_hc : 1 ≤ c) (hN : nm.size ≤ 1000000000) (hg : g < w.heap.size) (E0 : Nod w g (o) k0 p0 n0 m0 v0) (hx0 : x0.length ≤ 1000000000) (h0 : WOK w (Value.agg #[.int .i64 k0, .int .i64 p0, .string n0, .int .i64 m0, v0]) x0)  :
    Calls Tryz.prog 10 #[.agg #[.int .i64 7, .int .i64 p, .string nm, .int .i64 m, .slice (some ⟨g, o, none⟩) 1 c]] w fun en w' => StrRes w ([102, 110, 32] ++ nm.data.toList ++ [32, 61, 62, 32] ++ x0) en w' := by
  have H0 := hid h0
  clear h0
  go_enter Tryz.func10, Tryz.ntmps10
  go_upto_region 19 with fail
  obtain ⟨W, hW⟩ : ∃ W, W = w.alloc (.cells #[.int .i64 7, .int .i64 p, .string nm, .int .i64 m, .slice (some ⟨g, o, none⟩) 1 c] 24) := ⟨_, rfl⟩
  rw [← hW]
  have HB0 : Hid (Below w.heap.size w W) := by rw [hW]; exact (Below.refl _ _).alloc (Nat.le_refl _) _
  have hH0 : w.heap.size < W.heap.size := by rw [hW]; simp
  have hG0 : g < W.heap.size := by omega
  have b2 : W.cell? ⟨w.heap.size, 2, none⟩ = some (.string nm) := by rw [hW]; simp [go_sem]
  obtain ⟨e00, e01, e02, e03, e04⟩ := E0
  replace e00 := past_cells HB0.out hg e00
  replace e01 := past_cells HB0.out hg e01
  replace e02 := past_cells HB0.out hg e02
  replace e03 := past_cells HB0.out hg e03
  replace e04 := past_cells HB0.out hg e04
  clear hW
  have cs0 : (⟨#[32, 61, 62, 32]⟩ : ByteArray).size = 4 := rfl
  have cs1 : (⟨#[102, 110, 32]⟩ : ByteArray).size = 3 := rfl
  have kc0 := fun (W : World) => run_string_add_sum (P := Tryz.prog) W (⟨#[102, 110, 32]⟩) (nm) (by simp only [cs1]; omega)
  have kc1 := fun (W : World) => run_string_add_sum (P := Tryz.prog) W (⟨#[102, 110, 32]⟩ ++ nm) (⟨#[32, 61, 62, 32]⟩) (by simp only [ByteArray.size_append, cs0, cs1]; omega)
  have kc2 := fun (W : World) => run_string_add_sum (P := Tryz.prog) W (⟨#[102, 110, 32]⟩ ++ nm ++ ⟨#[32, 61, 62, 32]⟩) (⟨x0.toArray⟩) (by simp only [ByteArray.size_append, size_mk, cs0, cs1]; omega)
  clear cs0  cs1
  go_region_held3 (fun w' => w'.cell? ⟨w.heap.size, 2, none⟩ = some (.string nm) ∧ w'.cell? ⟨g, o, none⟩ = some (.int .i64 k0) ∧ w'.cell? ⟨g, o + 1, none⟩ = some (.int .i64 p0) ∧ w'.cell? ⟨g, o + 2, none⟩ = some (.string n0) ∧ w'.cell? ⟨g, o + 3, none⟩ = some (.int .i64 m0) ∧ w'.cell? ⟨g, o + 4, none⟩ = some (v0)) (go_keep)
    ((first
      | (go_at_call_of 10 (Value.agg #[.int .i64 k0, .int .i64 p0, .string n0, .int .i64 m0, v0]); refine (H0.out _ (by repeat (with_reducible (first | exact HB0.out | apply Below.drew)))).mono ?_; rintro en w1 ⟨rfl, HC1⟩
         have HB1 : Hid (Below w.heap.size w w1) := Below.trans (by repeat (with_reducible (first | exact HB0.out | apply Below.drew))) (HC1.out.mono (Nat.le_of_lt hH0))
         have hH1 : w.heap.size < w1.heap.size := Nat.lt_of_lt_of_le hH0 HC1.out.size
         have hG1 : g < w1.heap.size := Nat.lt_of_lt_of_le hG0 HC1.out.size
         have b2_1 := past_cells HC1.out hH0 b2
         have e00_1 := past_cells HC1.out hG0 e00
         have e01_1 := past_cells HC1.out hG0 e01
         have e02_1 := past_cells HC1.out hG0 e02
         have e03_1 := past_cells HC1.out hG0 e03
         have e04_1 := past_cells HC1.out hG0 e04)))
  all_goals
    go_wp2_with fail
    go_ret
    refine str_fin (by simp [ByteArray.data_append]) ?_
    repeat (with_reducible (first | exact HB1.out | apply Below.drew))

set_option maxRecDepth 100000 in
set_option maxHeartbeats 16000000 in
theorem wk_seq (w : World) (p m : Int) (nm : ByteArray) (g o c : Nat) (k0 p0 : Int) (n0 : ByteArray) (m0 : Int) (v0 : Value) (k1 p1 : Int) (n1 : ByteArray) (m1 : Int) (v1 : Value) (x0 : List UInt8) (x1 : List UInt8) (_hc : 2 ≤ c) (_hN : nm.size ≤ 1000000000) (hg : g < w.heap.size) (E0 : Nod w g (o) k0 p0 n0 m0 v0) (E1 : Nod w g (o + 5) k1 p1 n1 m1 v1) (hx0 : x0.length ≤ 1000000000) (h0 : IOK w (Value.agg #[.int .i64 k0, .int .i64 p0, .string n0, .int .i64 m0, v0]) 1 x0) (hx1 : x1.length ≤ 1000000000) (h1 : WOK w (Value.agg #[.int .i64 k1, .int .i64 p1, .string n1, .int .i64 m1, v1]) x1)  :
    Calls Tryz.prog 10 #[.agg #[.int .i64 10, .int .i64 p, .string nm, .int .i64 m, .slice (some ⟨g, o, none⟩) 2 c]] w fun en w' => StrRes w (x0 ++ [32, 59, 32] ++ x1) en w' := by
  have H0 := hid h0
  have H1 := hid h1
  clear h0 h1
  go_enter Tryz.func10, Tryz.ntmps10
  go_upto_region 30 with fail
  obtain ⟨W, hW⟩ : ∃ W, W = w.alloc (.cells #[.int .i64 10, .int .i64 p, .string nm, .int .i64 m, .slice (some ⟨g, o, none⟩) 2 c] 24) := ⟨_, rfl⟩
  rw [← hW]
  have HB0 : Hid (Below w.heap.size w W) := by rw [hW]; exact (Below.refl _ _).alloc (Nat.le_refl _) _
  have hH0 : w.heap.size < W.heap.size := by rw [hW]; simp
  have hG0 : g < W.heap.size := by omega
  have b2 : W.cell? ⟨w.heap.size, 2, none⟩ = some (.string nm) := by rw [hW]; simp [go_sem]
  obtain ⟨e00, e01, e02, e03, e04⟩ := E0
  replace e00 := past_cells HB0.out hg e00
  replace e01 := past_cells HB0.out hg e01
  replace e02 := past_cells HB0.out hg e02
  replace e03 := past_cells HB0.out hg e03
  replace e04 := past_cells HB0.out hg e04
  obtain ⟨e10, e11, e12, e13, e14⟩ := E1
  replace e10 := past_cells HB0.out hg e10
  replace e11 := past_cells HB0.out hg e11
  replace e12 := past_cells HB0.out hg e12
  replace e13 := past_cells HB0.out hg e13
  replace e14 := past_cells HB0.out hg e14
  clear hW b2
  have cs0 : (⟨#[32, 59, 32]⟩ : ByteArray).size = 3 := rfl
  have kc0 := fun (W : World) => run_string_add_sum (P := Tryz.prog) W (⟨x0.toArray⟩) (⟨#[32, 59, 32]⟩) (by simp only [size_mk, cs0]; omega)
  have kc1 := fun (W : World) => run_string_add_sum (P := Tryz.prog) W (⟨x0.toArray⟩ ++ ⟨#[32, 59, 32]⟩) (⟨x1.toArray⟩) (by simp only [ByteArray.size_append, size_mk, cs0]; omega)
  clear cs0
  go_region_held3 (fun w' => w'.cell? ⟨g, o, none⟩ = some (.int .i64 k0) ∧ w'.cell? ⟨g, o + 1, none⟩ = some (.int .i64 p0) ∧ w'.cell? ⟨g, o + 2, none⟩ = some (.string n0) ∧ w'.cell? ⟨g, o + 3, none⟩ = some (.int .i64 m0) ∧ w'.cell? ⟨g, o + 4, none⟩ = some (v0) ∧ w'.cell? ⟨g, o + 5, none⟩ = some (.int .i64 k1) ∧ w'.cell? ⟨g, o + 5 + 1, none⟩ = some (.int .i64 p1) ∧ w'.cell? ⟨g, o + 5 + 2, none⟩ = some (.string n1) ∧ w'.cell? ⟨g, o + 5 + 3, none⟩ = some (.int .i64 m1) ∧ w'.cell? ⟨g, o + 5 + 4, none⟩ = some (v1)) (go_keep)
    ((first
      | (go_at_call_of 24 (Value.agg #[.int .i64 k0, .int .i64 p0, .string n0, .int .i64 m0, v0]); refine (H0.out _ (by repeat (with_reducible (first | exact HB0.out | apply Below.drew)))).mono ?_; rintro en w1 ⟨rfl, HC1⟩
         have HB1 : Hid (Below w.heap.size w w1) := Below.trans (by repeat (with_reducible (first | exact HB0.out | apply Below.drew))) (HC1.out.mono (Nat.le_of_lt hH0))
         have hH1 : w.heap.size < w1.heap.size := Nat.lt_of_lt_of_le hH0 HC1.out.size
         have hG1 : g < w1.heap.size := Nat.lt_of_lt_of_le hG0 HC1.out.size
         have e00_1 := past_cells HC1.out hG0 e00
         have e01_1 := past_cells HC1.out hG0 e01
         have e02_1 := past_cells HC1.out hG0 e02
         have e03_1 := past_cells HC1.out hG0 e03
         have e04_1 := past_cells HC1.out hG0 e04
         have e10_1 := past_cells HC1.out hG0 e10
         have e11_1 := past_cells HC1.out hG0 e11
         have e12_1 := past_cells HC1.out hG0 e12
         have e13_1 := past_cells HC1.out hG0 e13
         have e14_1 := past_cells HC1.out hG0 e14)
      | (go_at_call_of 10 (Value.agg #[.int .i64 k1, .int .i64 p1, .string n1, .int .i64 m1, v1]); refine (H1.out _ (by repeat (with_reducible (first | exact HB1.out | apply Below.drew)))).mono ?_; rintro en w2 ⟨rfl, HC2⟩
         have HB2 : Hid (Below w.heap.size w w2) := Below.trans (by repeat (with_reducible (first | exact HB1.out | apply Below.drew))) (HC2.out.mono (Nat.le_of_lt hH1))
         have hH2 : w.heap.size < w2.heap.size := Nat.lt_of_lt_of_le hH1 HC2.out.size
         have hG2 : g < w2.heap.size := Nat.lt_of_lt_of_le hG1 HC2.out.size
         have e00_2 := past_cells HC2.out hG1 e00_1
         have e01_2 := past_cells HC2.out hG1 e01_1
         have e02_2 := past_cells HC2.out hG1 e02_1
         have e03_2 := past_cells HC2.out hG1 e03_1
         have e04_2 := past_cells HC2.out hG1 e04_1
         have e10_2 := past_cells HC2.out hG1 e10_1
         have e11_2 := past_cells HC2.out hG1 e11_1
         have e12_2 := past_cells HC2.out hG1 e12_1
         have e13_2 := past_cells HC2.out hG1 e13_1
         have e14_2 := past_cells HC2.out hG1 e14_1)))
  all_goals
    go_wp2_with fail
    go_ret
    refine str_fin (by simp [ByteArray.data_append]) ?_
    repeat (with_reducible (first | exact HB2.out | apply Below.drew))
end Go.Proofs.YtddnnlldkdljoaaGreatDoor

namespace Go.Proofs.YtddnnlldkdljoaaGreatDoor
open Go.RowKit

set_option maxRecDepth 100000 in
set_option maxHeartbeats 16000000 in
theorem wk_if (w : World) (p m : Int) (nm : ByteArray) (g o c : Nat) (k0 p0 : Int) (n0 : ByteArray) (m0 : Int) (v0 : Value) (k1 p1 : Int) (n1 : ByteArray) (m1 : Int) (v1 : Value) (k2 p2 : Int) (n2 : ByteArray) (m2 : Int) (v2 : Value) (x0 : List UInt8) (x1 : List UInt8) (x2 : List UInt8) (_hc : 3 ≤ c) (_hN : nm.size ≤ 1000000000) (hg : g < w.heap.size) (E0 : Nod w g (o) k0 p0 n0 m0 v0) (E1 : Nod w g (o + 5) k1 p1 n1 m1 v1) (E2 : Nod w g (o + 10) k2 p2 n2 m2 v2) (hx0 : x0.length ≤ 1000000000) (h0 : WOK w (Value.agg #[.int .i64 k0, .int .i64 p0, .string n0, .int .i64 m0, v0]) x0) (hx1 : x1.length ≤ 1000000000) (h1 : WOK w (Value.agg #[.int .i64 k1, .int .i64 p1, .string n1, .int .i64 m1, v1]) x1) (hx2 : x2.length ≤ 1000000000) (h2 : WOK w (Value.agg #[.int .i64 k2, .int .i64 p2, .string n2, .int .i64 m2, v2]) x2)  :
    Calls Tryz.prog 10 #[.agg #[.int .i64 11, .int .i64 p, .string nm, .int .i64 m, .slice (some ⟨g, o, none⟩) 3 c]] w fun en w' => StrRes w ([105, 102, 32] ++ x0 ++ [32, 116, 104, 101, 110, 32] ++ x1 ++ [32, 101, 108, 115, 101, 32] ++ x2) en w' := by
  have H0 := hid h0
  have H1 := hid h1
  have H2 := hid h2
  clear h0 h1 h2
  go_enter Tryz.func10, Tryz.ntmps10
  go_upto_region 32 with fail
  obtain ⟨W, hW⟩ : ∃ W, W = w.alloc (.cells #[.int .i64 11, .int .i64 p, .string nm, .int .i64 m, .slice (some ⟨g, o, none⟩) 3 c] 24) := ⟨_, rfl⟩
  rw [← hW]
  have HB0 : Hid (Below w.heap.size w W) := by rw [hW]; exact (Below.refl _ _).alloc (Nat.le_refl _) _
  have hH0 : w.heap.size < W.heap.size := by rw [hW]; simp
  have hG0 : g < W.heap.size := by omega
  have b2 : W.cell? ⟨w.heap.size, 2, none⟩ = some (.string nm) := by rw [hW]; simp [go_sem]
  obtain ⟨e00, e01, e02, e03, e04⟩ := E0
  replace e00 := past_cells HB0.out hg e00
  replace e01 := past_cells HB0.out hg e01
  replace e02 := past_cells HB0.out hg e02
  replace e03 := past_cells HB0.out hg e03
  replace e04 := past_cells HB0.out hg e04
  obtain ⟨e10, e11, e12, e13, e14⟩ := E1
  replace e10 := past_cells HB0.out hg e10
  replace e11 := past_cells HB0.out hg e11
  replace e12 := past_cells HB0.out hg e12
  replace e13 := past_cells HB0.out hg e13
  replace e14 := past_cells HB0.out hg e14
  obtain ⟨e20, e21, e22, e23, e24⟩ := E2
  replace e20 := past_cells HB0.out hg e20
  replace e21 := past_cells HB0.out hg e21
  replace e22 := past_cells HB0.out hg e22
  replace e23 := past_cells HB0.out hg e23
  replace e24 := past_cells HB0.out hg e24
  clear hW b2
  have cs0 : (⟨#[32, 101, 108, 115, 101, 32]⟩ : ByteArray).size = 6 := rfl
  have cs1 : (⟨#[32, 116, 104, 101, 110, 32]⟩ : ByteArray).size = 6 := rfl
  have cs2 : (⟨#[105, 102, 32]⟩ : ByteArray).size = 3 := rfl
  have kc0 := fun (W : World) => run_string_add_sum (P := Tryz.prog) W (⟨#[105, 102, 32]⟩) (⟨x0.toArray⟩) (by simp only [size_mk, cs2]; omega)
  have kc1 := fun (W : World) => run_string_add_sum (P := Tryz.prog) W (⟨#[105, 102, 32]⟩ ++ ⟨x0.toArray⟩) (⟨#[32, 116, 104, 101, 110, 32]⟩) (by simp only [ByteArray.size_append, size_mk, cs1, cs2]; omega)
  have kc2 := fun (W : World) => run_string_add_sum (P := Tryz.prog) W (⟨#[105, 102, 32]⟩ ++ ⟨x0.toArray⟩ ++ ⟨#[32, 116, 104, 101, 110, 32]⟩) (⟨x1.toArray⟩) (by simp only [ByteArray.size_append, size_mk, cs1, cs2]; omega)
  have kc3 := fun (W : World) => run_string_add_sum (P := Tryz.prog) W (⟨#[105, 102, 32]⟩ ++ ⟨x0.toArray⟩ ++ ⟨#[32, 116, 104, 101, 110, 32]⟩ ++ ⟨x1.toArray⟩) (⟨#[32, 101, 108, 115, 101, 32]⟩) (by simp only [ByteArray.size_append, size_mk, cs0, cs1, cs2]; omega)
  have kc4 := fun (W : World) => run_string_add_sum (P := Tryz.prog) W (⟨#[105, 102, 32]⟩ ++ ⟨x0.toArray⟩ ++ ⟨#[32, 116, 104, 101, 110, 32]⟩ ++ ⟨x1.toArray⟩ ++ ⟨#[32, 101, 108, 115, 101, 32]⟩) (⟨x2.toArray⟩) (by simp only [ByteArray.size_append, size_mk, cs0, cs1, cs2]; omega)
  clear cs0  cs1  cs2
  go_region_held3 (fun w' => w'.cell? ⟨g, o, none⟩ = some (.int .i64 k0) ∧ w'.cell? ⟨g, o + 1, none⟩ = some (.int .i64 p0) ∧ w'.cell? ⟨g, o + 2, none⟩ = some (.string n0) ∧ w'.cell? ⟨g, o + 3, none⟩ = some (.int .i64 m0) ∧ w'.cell? ⟨g, o + 4, none⟩ = some (v0) ∧ w'.cell? ⟨g, o + 5, none⟩ = some (.int .i64 k1) ∧ w'.cell? ⟨g, o + 5 + 1, none⟩ = some (.int .i64 p1) ∧ w'.cell? ⟨g, o + 5 + 2, none⟩ = some (.string n1) ∧ w'.cell? ⟨g, o + 5 + 3, none⟩ = some (.int .i64 m1) ∧ w'.cell? ⟨g, o + 5 + 4, none⟩ = some (v1) ∧ w'.cell? ⟨g, o + 10, none⟩ = some (.int .i64 k2) ∧ w'.cell? ⟨g, o + 10 + 1, none⟩ = some (.int .i64 p2) ∧ w'.cell? ⟨g, o + 10 + 2, none⟩ = some (.string n2) ∧ w'.cell? ⟨g, o + 10 + 3, none⟩ = some (.int .i64 m2) ∧ w'.cell? ⟨g, o + 10 + 4, none⟩ = some (v2)) (go_keep)
    ((first
      | (go_at_call_of 10 (Value.agg #[.int .i64 k0, .int .i64 p0, .string n0, .int .i64 m0, v0]); refine (H0.out _ (by repeat (with_reducible (first | exact HB0.out | apply Below.drew)))).mono ?_; rintro en w1 ⟨rfl, HC1⟩
         have HB1 : Hid (Below w.heap.size w w1) := Below.trans (by repeat (with_reducible (first | exact HB0.out | apply Below.drew))) (HC1.out.mono (Nat.le_of_lt hH0))
         have hH1 : w.heap.size < w1.heap.size := Nat.lt_of_lt_of_le hH0 HC1.out.size
         have hG1 : g < w1.heap.size := Nat.lt_of_lt_of_le hG0 HC1.out.size
         have e00_1 := past_cells HC1.out hG0 e00
         have e01_1 := past_cells HC1.out hG0 e01
         have e02_1 := past_cells HC1.out hG0 e02
         have e03_1 := past_cells HC1.out hG0 e03
         have e04_1 := past_cells HC1.out hG0 e04
         have e10_1 := past_cells HC1.out hG0 e10
         have e11_1 := past_cells HC1.out hG0 e11
         have e12_1 := past_cells HC1.out hG0 e12
         have e13_1 := past_cells HC1.out hG0 e13
         have e14_1 := past_cells HC1.out hG0 e14
         have e20_1 := past_cells HC1.out hG0 e20
         have e21_1 := past_cells HC1.out hG0 e21
         have e22_1 := past_cells HC1.out hG0 e22
         have e23_1 := past_cells HC1.out hG0 e23
         have e24_1 := past_cells HC1.out hG0 e24)
      | (go_at_call_of 10 (Value.agg #[.int .i64 k1, .int .i64 p1, .string n1, .int .i64 m1, v1]); refine (H1.out _ (by repeat (with_reducible (first | exact HB1.out | apply Below.drew)))).mono ?_; rintro en w2 ⟨rfl, HC2⟩
         have HB2 : Hid (Below w.heap.size w w2) := Below.trans (by repeat (with_reducible (first | exact HB1.out | apply Below.drew))) (HC2.out.mono (Nat.le_of_lt hH1))
         have hH2 : w.heap.size < w2.heap.size := Nat.lt_of_lt_of_le hH1 HC2.out.size
         have hG2 : g < w2.heap.size := Nat.lt_of_lt_of_le hG1 HC2.out.size
         have e00_2 := past_cells HC2.out hG1 e00_1
         have e01_2 := past_cells HC2.out hG1 e01_1
         have e02_2 := past_cells HC2.out hG1 e02_1
         have e03_2 := past_cells HC2.out hG1 e03_1
         have e04_2 := past_cells HC2.out hG1 e04_1
         have e10_2 := past_cells HC2.out hG1 e10_1
         have e11_2 := past_cells HC2.out hG1 e11_1
         have e12_2 := past_cells HC2.out hG1 e12_1
         have e13_2 := past_cells HC2.out hG1 e13_1
         have e14_2 := past_cells HC2.out hG1 e14_1
         have e20_2 := past_cells HC2.out hG1 e20_1
         have e21_2 := past_cells HC2.out hG1 e21_1
         have e22_2 := past_cells HC2.out hG1 e22_1
         have e23_2 := past_cells HC2.out hG1 e23_1
         have e24_2 := past_cells HC2.out hG1 e24_1)
      | (go_at_call_of 10 (Value.agg #[.int .i64 k2, .int .i64 p2, .string n2, .int .i64 m2, v2]); refine (H2.out _ (by repeat (with_reducible (first | exact HB2.out | apply Below.drew)))).mono ?_; rintro en w3 ⟨rfl, HC3⟩
         have HB3 : Hid (Below w.heap.size w w3) := Below.trans (by repeat (with_reducible (first | exact HB2.out | apply Below.drew))) (HC3.out.mono (Nat.le_of_lt hH2))
         have hH3 : w.heap.size < w3.heap.size := Nat.lt_of_lt_of_le hH2 HC3.out.size
         have hG3 : g < w3.heap.size := Nat.lt_of_lt_of_le hG2 HC3.out.size
         have e00_3 := past_cells HC3.out hG2 e00_2
         have e01_3 := past_cells HC3.out hG2 e01_2
         have e02_3 := past_cells HC3.out hG2 e02_2
         have e03_3 := past_cells HC3.out hG2 e03_2
         have e04_3 := past_cells HC3.out hG2 e04_2
         have e10_3 := past_cells HC3.out hG2 e10_2
         have e11_3 := past_cells HC3.out hG2 e11_2
         have e12_3 := past_cells HC3.out hG2 e12_2
         have e13_3 := past_cells HC3.out hG2 e13_2
         have e14_3 := past_cells HC3.out hG2 e14_2
         have e20_3 := past_cells HC3.out hG2 e20_2
         have e21_3 := past_cells HC3.out hG2 e21_2
         have e22_3 := past_cells HC3.out hG2 e22_2
         have e23_3 := past_cells HC3.out hG2 e23_2
         have e24_3 := past_cells HC3.out hG2 e24_2)))
  all_goals
    go_wp2_with fail
    go_ret
    refine str_fin (by simp [ByteArray.data_append]) ?_
    repeat (with_reducible (first | exact HB3.out | apply Below.drew))

set_option maxRecDepth 100000 in
set_option maxHeartbeats 16000000 in
theorem wk_pair (w : World) (p m : Int) (nm : ByteArray) (g o c : Nat) (k0 p0 : Int) (n0 : ByteArray) (m0 : Int) (v0 : Value) (k1 p1 : Int) (n1 : ByteArray) (m1 : Int) (v1 : Value) (x0 : List UInt8) (x1 : List UInt8) (_hc : 2 ≤ c) (_hN : nm.size ≤ 1000000000) (hg : g < w.heap.size) (E0 : Nod w g (o) k0 p0 n0 m0 v0) (E1 : Nod w g (o + 5) k1 p1 n1 m1 v1) (hx0 : x0.length ≤ 1000000000) (h0 : WOK w (Value.agg #[.int .i64 k0, .int .i64 p0, .string n0, .int .i64 m0, v0]) x0) (hx1 : x1.length ≤ 1000000000) (h1 : WOK w (Value.agg #[.int .i64 k1, .int .i64 p1, .string n1, .int .i64 m1, v1]) x1)  :
    Calls Tryz.prog 10 #[.agg #[.int .i64 12, .int .i64 p, .string nm, .int .i64 m, .slice (some ⟨g, o, none⟩) 2 c]] w fun en w' => StrRes w ([40, 32] ++ x0 ++ [32, 44, 32] ++ x1 ++ [32, 41]) en w' := by
  have H0 := hid h0
  have H1 := hid h1
  clear h0 h1
  go_enter Tryz.func10, Tryz.ntmps10
  go_upto_region 34 with fail
  obtain ⟨W, hW⟩ : ∃ W, W = w.alloc (.cells #[.int .i64 12, .int .i64 p, .string nm, .int .i64 m, .slice (some ⟨g, o, none⟩) 2 c] 24) := ⟨_, rfl⟩
  rw [← hW]
  have HB0 : Hid (Below w.heap.size w W) := by rw [hW]; exact (Below.refl _ _).alloc (Nat.le_refl _) _
  have hH0 : w.heap.size < W.heap.size := by rw [hW]; simp
  have hG0 : g < W.heap.size := by omega
  have b2 : W.cell? ⟨w.heap.size, 2, none⟩ = some (.string nm) := by rw [hW]; simp [go_sem]
  obtain ⟨e00, e01, e02, e03, e04⟩ := E0
  replace e00 := past_cells HB0.out hg e00
  replace e01 := past_cells HB0.out hg e01
  replace e02 := past_cells HB0.out hg e02
  replace e03 := past_cells HB0.out hg e03
  replace e04 := past_cells HB0.out hg e04
  obtain ⟨e10, e11, e12, e13, e14⟩ := E1
  replace e10 := past_cells HB0.out hg e10
  replace e11 := past_cells HB0.out hg e11
  replace e12 := past_cells HB0.out hg e12
  replace e13 := past_cells HB0.out hg e13
  replace e14 := past_cells HB0.out hg e14
  clear hW b2
  have cs0 : (⟨#[32, 41]⟩ : ByteArray).size = 2 := rfl
  have cs1 : (⟨#[32, 44, 32]⟩ : ByteArray).size = 3 := rfl
  have cs2 : (⟨#[40, 32]⟩ : ByteArray).size = 2 := rfl
  have kc0 := fun (W : World) => run_string_add_sum (P := Tryz.prog) W (⟨#[40, 32]⟩) (⟨x0.toArray⟩) (by simp only [size_mk, cs2]; omega)
  have kc1 := fun (W : World) => run_string_add_sum (P := Tryz.prog) W (⟨#[40, 32]⟩ ++ ⟨x0.toArray⟩) (⟨#[32, 44, 32]⟩) (by simp only [ByteArray.size_append, size_mk, cs1, cs2]; omega)
  have kc2 := fun (W : World) => run_string_add_sum (P := Tryz.prog) W (⟨#[40, 32]⟩ ++ ⟨x0.toArray⟩ ++ ⟨#[32, 44, 32]⟩) (⟨x1.toArray⟩) (by simp only [ByteArray.size_append, size_mk, cs1, cs2]; omega)
  have kc3 := fun (W : World) => run_string_add_sum (P := Tryz.prog) W (⟨#[40, 32]⟩ ++ ⟨x0.toArray⟩ ++ ⟨#[32, 44, 32]⟩ ++ ⟨x1.toArray⟩) (⟨#[32, 41]⟩) (by simp only [ByteArray.size_append, size_mk, cs0, cs1, cs2]; omega)
  clear cs0  cs1  cs2
  go_region_held3 (fun w' => w'.cell? ⟨g, o, none⟩ = some (.int .i64 k0) ∧ w'.cell? ⟨g, o + 1, none⟩ = some (.int .i64 p0) ∧ w'.cell? ⟨g, o + 2, none⟩ = some (.string n0) ∧ w'.cell? ⟨g, o + 3, none⟩ = some (.int .i64 m0) ∧ w'.cell? ⟨g, o + 4, none⟩ = some (v0) ∧ w'.cell? ⟨g, o + 5, none⟩ = some (.int .i64 k1) ∧ w'.cell? ⟨g, o + 5 + 1, none⟩ = some (.int .i64 p1) ∧ w'.cell? ⟨g, o + 5 + 2, none⟩ = some (.string n1) ∧ w'.cell? ⟨g, o + 5 + 3, none⟩ = some (.int .i64 m1) ∧ w'.cell? ⟨g, o + 5 + 4, none⟩ = some (v1)) (go_keep)
    ((first
      | (go_at_call_of 10 (Value.agg #[.int .i64 k0, .int .i64 p0, .string n0, .int .i64 m0, v0]); refine (H0.out _ (by repeat (with_reducible (first | exact HB0.out | apply Below.drew)))).mono ?_; rintro en w1 ⟨rfl, HC1⟩
         have HB1 : Hid (Below w.heap.size w w1) := Below.trans (by repeat (with_reducible (first | exact HB0.out | apply Below.drew))) (HC1.out.mono (Nat.le_of_lt hH0))
         have hH1 : w.heap.size < w1.heap.size := Nat.lt_of_lt_of_le hH0 HC1.out.size
         have hG1 : g < w1.heap.size := Nat.lt_of_lt_of_le hG0 HC1.out.size
         have e00_1 := past_cells HC1.out hG0 e00
         have e01_1 := past_cells HC1.out hG0 e01
         have e02_1 := past_cells HC1.out hG0 e02
         have e03_1 := past_cells HC1.out hG0 e03
         have e04_1 := past_cells HC1.out hG0 e04
         have e10_1 := past_cells HC1.out hG0 e10
         have e11_1 := past_cells HC1.out hG0 e11
         have e12_1 := past_cells HC1.out hG0 e12
         have e13_1 := past_cells HC1.out hG0 e13
         have e14_1 := past_cells HC1.out hG0 e14)
      | (go_at_call_of 10 (Value.agg #[.int .i64 k1, .int .i64 p1, .string n1, .int .i64 m1, v1]); refine (H1.out _ (by repeat (with_reducible (first | exact HB1.out | apply Below.drew)))).mono ?_; rintro en w2 ⟨rfl, HC2⟩
         have HB2 : Hid (Below w.heap.size w w2) := Below.trans (by repeat (with_reducible (first | exact HB1.out | apply Below.drew))) (HC2.out.mono (Nat.le_of_lt hH1))
         have hH2 : w.heap.size < w2.heap.size := Nat.lt_of_lt_of_le hH1 HC2.out.size
         have hG2 : g < w2.heap.size := Nat.lt_of_lt_of_le hG1 HC2.out.size
         have e00_2 := past_cells HC2.out hG1 e00_1
         have e01_2 := past_cells HC2.out hG1 e01_1
         have e02_2 := past_cells HC2.out hG1 e02_1
         have e03_2 := past_cells HC2.out hG1 e03_1
         have e04_2 := past_cells HC2.out hG1 e04_1
         have e10_2 := past_cells HC2.out hG1 e10_1
         have e11_2 := past_cells HC2.out hG1 e11_1
         have e12_2 := past_cells HC2.out hG1 e12_1
         have e13_2 := past_cells HC2.out hG1 e13_1
         have e14_2 := past_cells HC2.out hG1 e14_1)))
  all_goals
    go_wp2_with fail
    go_ret
    refine str_fin (by simp [ByteArray.data_append]) ?_
    repeat (with_reducible (first | exact HB2.out | apply Below.drew))

set_option maxRecDepth 100000 in
set_option maxHeartbeats 16000000 in
theorem wk_cons (w : World) (p m : Int) (nm : ByteArray) (g o c : Nat) (k0 p0 : Int) (n0 : ByteArray) (m0 : Int) (v0 : Value) (k1 p1 : Int) (n1 : ByteArray) (m1 : Int) (v1 : Value) (x0 : List UInt8) (x1 : List UInt8) (_hc : 2 ≤ c) (_hN : nm.size ≤ 1000000000) (hg : g < w.heap.size) (E0 : Nod w g (o) k0 p0 n0 m0 v0) (E1 : Nod w g (o + 5) k1 p1 n1 m1 v1) (hx0 : x0.length ≤ 1000000000) (h0 : IOK w (Value.agg #[.int .i64 k0, .int .i64 p0, .string n0, .int .i64 m0, v0]) 3 x0) (hx1 : x1.length ≤ 1000000000) (h1 : IOK w (Value.agg #[.int .i64 k1, .int .i64 p1, .string n1, .int .i64 m1, v1]) 2 x1)  :
    Calls Tryz.prog 10 #[.agg #[.int .i64 16, .int .i64 p, .string nm, .int .i64 m, .slice (some ⟨g, o, none⟩) 2 c]] w fun en w' => StrRes w (x0 ++ [32, 58, 58, 32] ++ x1) en w' := by
  have H0 := hid h0
  have H1 := hid h1
  clear h0 h1
  go_enter Tryz.func10, Tryz.ntmps10
  go_upto_region 42 with fail
  obtain ⟨W, hW⟩ : ∃ W, W = w.alloc (.cells #[.int .i64 16, .int .i64 p, .string nm, .int .i64 m, .slice (some ⟨g, o, none⟩) 2 c] 24) := ⟨_, rfl⟩
  rw [← hW]
  have HB0 : Hid (Below w.heap.size w W) := by rw [hW]; exact (Below.refl _ _).alloc (Nat.le_refl _) _
  have hH0 : w.heap.size < W.heap.size := by rw [hW]; simp
  have hG0 : g < W.heap.size := by omega
  have b2 : W.cell? ⟨w.heap.size, 2, none⟩ = some (.string nm) := by rw [hW]; simp [go_sem]
  obtain ⟨e00, e01, e02, e03, e04⟩ := E0
  replace e00 := past_cells HB0.out hg e00
  replace e01 := past_cells HB0.out hg e01
  replace e02 := past_cells HB0.out hg e02
  replace e03 := past_cells HB0.out hg e03
  replace e04 := past_cells HB0.out hg e04
  obtain ⟨e10, e11, e12, e13, e14⟩ := E1
  replace e10 := past_cells HB0.out hg e10
  replace e11 := past_cells HB0.out hg e11
  replace e12 := past_cells HB0.out hg e12
  replace e13 := past_cells HB0.out hg e13
  replace e14 := past_cells HB0.out hg e14
  clear hW b2
  have cs0 : (⟨#[32, 58, 58, 32]⟩ : ByteArray).size = 4 := rfl
  have kc0 := fun (W : World) => run_string_add_sum (P := Tryz.prog) W (⟨x0.toArray⟩) (⟨#[32, 58, 58, 32]⟩) (by simp only [size_mk, cs0]; omega)
  have kc1 := fun (W : World) => run_string_add_sum (P := Tryz.prog) W (⟨x0.toArray⟩ ++ ⟨#[32, 58, 58, 32]⟩) (⟨x1.toArray⟩) (by simp only [ByteArray.size_append, size_mk, cs0]; omega)
  clear cs0
  go_region_held3 (fun w' => w'.cell? ⟨g, o, none⟩ = some (.int .i64 k0) ∧ w'.cell? ⟨g, o + 1, none⟩ = some (.int .i64 p0) ∧ w'.cell? ⟨g, o + 2, none⟩ = some (.string n0) ∧ w'.cell? ⟨g, o + 3, none⟩ = some (.int .i64 m0) ∧ w'.cell? ⟨g, o + 4, none⟩ = some (v0) ∧ w'.cell? ⟨g, o + 5, none⟩ = some (.int .i64 k1) ∧ w'.cell? ⟨g, o + 5 + 1, none⟩ = some (.int .i64 p1) ∧ w'.cell? ⟨g, o + 5 + 2, none⟩ = some (.string n1) ∧ w'.cell? ⟨g, o + 5 + 3, none⟩ = some (.int .i64 m1) ∧ w'.cell? ⟨g, o + 5 + 4, none⟩ = some (v1)) (go_keep)
    ((first
      | (go_at_call_of 24 (Value.agg #[.int .i64 k0, .int .i64 p0, .string n0, .int .i64 m0, v0]); refine (H0.out _ (by repeat (with_reducible (first | exact HB0.out | apply Below.drew)))).mono ?_; rintro en w1 ⟨rfl, HC1⟩
         have HB1 : Hid (Below w.heap.size w w1) := Below.trans (by repeat (with_reducible (first | exact HB0.out | apply Below.drew))) (HC1.out.mono (Nat.le_of_lt hH0))
         have hH1 : w.heap.size < w1.heap.size := Nat.lt_of_lt_of_le hH0 HC1.out.size
         have hG1 : g < w1.heap.size := Nat.lt_of_lt_of_le hG0 HC1.out.size
         have e00_1 := past_cells HC1.out hG0 e00
         have e01_1 := past_cells HC1.out hG0 e01
         have e02_1 := past_cells HC1.out hG0 e02
         have e03_1 := past_cells HC1.out hG0 e03
         have e04_1 := past_cells HC1.out hG0 e04
         have e10_1 := past_cells HC1.out hG0 e10
         have e11_1 := past_cells HC1.out hG0 e11
         have e12_1 := past_cells HC1.out hG0 e12
         have e13_1 := past_cells HC1.out hG0 e13
         have e14_1 := past_cells HC1.out hG0 e14)
      | (go_at_call_of 24 (Value.agg #[.int .i64 k1, .int .i64 p1, .string n1, .int .i64 m1, v1]); refine (H1.out _ (by repeat (with_reducible (first | exact HB1.out | apply Below.drew)))).mono ?_; rintro en w2 ⟨rfl, HC2⟩
         have HB2 : Hid (Below w.heap.size w w2) := Below.trans (by repeat (with_reducible (first | exact HB1.out | apply Below.drew))) (HC2.out.mono (Nat.le_of_lt hH1))
         have hH2 : w.heap.size < w2.heap.size := Nat.lt_of_lt_of_le hH1 HC2.out.size
         have hG2 : g < w2.heap.size := Nat.lt_of_lt_of_le hG1 HC2.out.size
         have e00_2 := past_cells HC2.out hG1 e00_1
         have e01_2 := past_cells HC2.out hG1 e01_1
         have e02_2 := past_cells HC2.out hG1 e02_1
         have e03_2 := past_cells HC2.out hG1 e03_1
         have e04_2 := past_cells HC2.out hG1 e04_1
         have e10_2 := past_cells HC2.out hG1 e10_1
         have e11_2 := past_cells HC2.out hG1 e11_1
         have e12_2 := past_cells HC2.out hG1 e12_1
         have e13_2 := past_cells HC2.out hG1 e13_1
         have e14_2 := past_cells HC2.out hG1 e14_1)))
  all_goals
    go_wp2_with fail
    go_ret
    refine str_fin (by simp [ByteArray.data_append]) ?_
    repeat (with_reducible (first | exact HB2.out | apply Below.drew))
end Go.Proofs.YtddnnlldkdljoaaGreatDoor

namespace Go.Proofs.YtddnnlldkdljoaaGreatDoor
open Go.RowKit

set_option maxRecDepth 100000 in
set_option maxHeartbeats 16000000 in
theorem wk_case (w : World) (p m : Int) (nm : ByteArray) (g o c : Nat) (k0 p0 : Int) (n0 : ByteArray) (m0 : Int) (v0 : Value) (k1 p1 : Int) (n1 : ByteArray) (m1 : Int) (v1 : Value) (k2 p2 : Int) (n2 : ByteArray) (m2 : Int) (v2 : Value) (k3 p3 : Int) (n3 : ByteArray) (m3 : Int) (v3 : Value) (k4 p4 : Int) (n4 : ByteArray) (m4 : Int) (v4 : Value) (x0 : List UInt8) (x1 : List UInt8) (x4 : List UInt8) (_hc : 5 ≤ c) (_hN : nm.size ≤ 1000000000) (hg : g < w.heap.size) (E0 : Nod w g (o) k0 p0 n0 m0 v0) (E1 : Nod w g (o + 5) k1 p1 n1 m1 v1) (E2 : Nod w g (o + 10) k2 p2 n2 m2 v2) (E3 : Nod w g (o + 15) k3 p3 n3 m3 v3) (E4 : Nod w g (o + 20) k4 p4 n4 m4 v4) (hn2 : n2.size ≤ 1000000000) (hn3 : n3.size ≤ 1000000000) (hx0 : x0.length ≤ 1000000000) (h0 : WOK w (Value.agg #[.int .i64 k0, .int .i64 p0, .string n0, .int .i64 m0, v0]) x0) (hx1 : x1.length ≤ 1000000000) (h1 : WOK w (Value.agg #[.int .i64 k1, .int .i64 p1, .string n1, .int .i64 m1, v1]) x1) (hx4 : x4.length ≤ 1000000000) (h4 : WOK w (Value.agg #[.int .i64 k4, .int .i64 p4, .string n4, .int .i64 m4, v4]) x4)  :
    Calls Tryz.prog 10 #[.agg #[.int .i64 17, .int .i64 p, .string nm, .int .i64 m, .slice (some ⟨g, o, none⟩) 5 c]] w fun en w' => StrRes w ([99, 97, 115, 101, 32] ++ x0 ++ [32, 111, 102, 32, 91, 32, 93, 32, 61, 62, 32] ++ x1 ++ [32, 124, 32] ++ n2.data.toList ++ [32, 58, 58, 32] ++ n3.data.toList ++ [32, 61, 62, 32] ++ x4 ++ [32, 101, 110, 100]) en w' := by
  have H0 := hid h0
  have H1 := hid h1
  have H4 := hid h4
  clear h0 h1 h4
  go_enter Tryz.func10, Tryz.ntmps10
  go_upto_region 44 with fail
  obtain ⟨W, hW⟩ : ∃ W, W = w.alloc (.cells #[.int .i64 17, .int .i64 p, .string nm, .int .i64 m, .slice (some ⟨g, o, none⟩) 5 c] 24) := ⟨_, rfl⟩
  rw [← hW]
  have HB0 : Hid (Below w.heap.size w W) := by rw [hW]; exact (Below.refl _ _).alloc (Nat.le_refl _) _
  have hH0 : w.heap.size < W.heap.size := by rw [hW]; simp
  have hG0 : g < W.heap.size := by omega
  have b2 : W.cell? ⟨w.heap.size, 2, none⟩ = some (.string nm) := by rw [hW]; simp [go_sem]
  obtain ⟨e00, e01, e02, e03, e04⟩ := E0
  replace e00 := past_cells HB0.out hg e00
  replace e01 := past_cells HB0.out hg e01
  replace e02 := past_cells HB0.out hg e02
  replace e03 := past_cells HB0.out hg e03
  replace e04 := past_cells HB0.out hg e04
  obtain ⟨e10, e11, e12, e13, e14⟩ := E1
  replace e10 := past_cells HB0.out hg e10
  replace e11 := past_cells HB0.out hg e11
  replace e12 := past_cells HB0.out hg e12
  replace e13 := past_cells HB0.out hg e13
  replace e14 := past_cells HB0.out hg e14
  obtain ⟨e20, e21, e22, e23, e24⟩ := E2
  replace e22 := past_cells HB0.out hg e22
  clear e20 e21 e23 e24
  obtain ⟨e30, e31, e32, e33, e34⟩ := E3
  replace e32 := past_cells HB0.out hg e32
  clear e30 e31 e33 e34
  obtain ⟨e40, e41, e42, e43, e44⟩ := E4
  replace e40 := past_cells HB0.out hg e40
  replace e41 := past_cells HB0.out hg e41
  replace e42 := past_cells HB0.out hg e42
  replace e43 := past_cells HB0.out hg e43
  replace e44 := past_cells HB0.out hg e44
  clear hW b2
  have cs0 : (⟨#[32, 58, 58, 32]⟩ : ByteArray).size = 4 := rfl
  have cs1 : (⟨#[32, 61, 62, 32]⟩ : ByteArray).size = 4 := rfl
  have cs2 : (⟨#[32, 101, 110, 100]⟩ : ByteArray).size = 4 := rfl
  have cs3 : (⟨#[32, 111, 102, 32, 91, 32, 93, 32, 61, 62, 32]⟩ : ByteArray).size = 11 := rfl
  have cs4 : (⟨#[32, 124, 32]⟩ : ByteArray).size = 3 := rfl
  have cs5 : (⟨#[99, 97, 115, 101, 32]⟩ : ByteArray).size = 5 := rfl
  have kc0 := fun (W : World) => run_string_add_sum (P := Tryz.prog) W (⟨#[99, 97, 115, 101, 32]⟩) (⟨x0.toArray⟩) (by simp only [size_mk, cs5]; omega)
  have kc1 := fun (W : World) => run_string_add_sum (P := Tryz.prog) W (⟨#[99, 97, 115, 101, 32]⟩ ++ ⟨x0.toArray⟩) (⟨#[32, 111, 102, 32, 91, 32, 93, 32, 61, 62, 32]⟩) (by simp only [ByteArray.size_append, size_mk, cs3, cs5]; omega)
  have kc2 := fun (W : World) => run_string_add_sum (P := Tryz.prog) W (⟨#[99, 97, 115, 101, 32]⟩ ++ ⟨x0.toArray⟩ ++ ⟨#[32, 111, 102, 32, 91, 32, 93, 32, 61, 62, 32]⟩) (⟨x1.toArray⟩) (by simp only [ByteArray.size_append, size_mk, cs3, cs5]; omega)
  have kc3 := fun (W : World) => run_string_add_sum (P := Tryz.prog) W (⟨#[99, 97, 115, 101, 32]⟩ ++ ⟨x0.toArray⟩ ++ ⟨#[32, 111, 102, 32, 91, 32, 93, 32, 61, 62, 32]⟩ ++ ⟨x1.toArray⟩) (⟨#[32, 124, 32]⟩) (by simp only [ByteArray.size_append, size_mk, cs3, cs4, cs5]; omega)
  have kc4 := fun (W : World) => run_string_add_sum (P := Tryz.prog) W (⟨#[99, 97, 115, 101, 32]⟩ ++ ⟨x0.toArray⟩ ++ ⟨#[32, 111, 102, 32, 91, 32, 93, 32, 61, 62, 32]⟩ ++ ⟨x1.toArray⟩ ++ ⟨#[32, 124, 32]⟩) (n2) (by simp only [ByteArray.size_append, size_mk, cs3, cs4, cs5]; omega)
  have kc5 := fun (W : World) => run_string_add_sum (P := Tryz.prog) W (⟨#[99, 97, 115, 101, 32]⟩ ++ ⟨x0.toArray⟩ ++ ⟨#[32, 111, 102, 32, 91, 32, 93, 32, 61, 62, 32]⟩ ++ ⟨x1.toArray⟩ ++ ⟨#[32, 124, 32]⟩ ++ n2) (⟨#[32, 58, 58, 32]⟩) (by simp only [ByteArray.size_append, size_mk, cs0, cs3, cs4, cs5]; omega)
  have kc6 := fun (W : World) => run_string_add_sum (P := Tryz.prog) W (⟨#[99, 97, 115, 101, 32]⟩ ++ ⟨x0.toArray⟩ ++ ⟨#[32, 111, 102, 32, 91, 32, 93, 32, 61, 62, 32]⟩ ++ ⟨x1.toArray⟩ ++ ⟨#[32, 124, 32]⟩ ++ n2 ++ ⟨#[32, 58, 58, 32]⟩) (n3) (by simp only [ByteArray.size_append, size_mk, cs0, cs3, cs4, cs5]; omega)
  have kc7 := fun (W : World) => run_string_add_sum (P := Tryz.prog) W (⟨#[99, 97, 115, 101, 32]⟩ ++ ⟨x0.toArray⟩ ++ ⟨#[32, 111, 102, 32, 91, 32, 93, 32, 61, 62, 32]⟩ ++ ⟨x1.toArray⟩ ++ ⟨#[32, 124, 32]⟩ ++ n2 ++ ⟨#[32, 58, 58, 32]⟩ ++ n3) (⟨#[32, 61, 62, 32]⟩) (by simp only [ByteArray.size_append, size_mk, cs0, cs1, cs3, cs4, cs5]; omega)
  have kc8 := fun (W : World) => run_string_add_sum (P := Tryz.prog) W (⟨#[99, 97, 115, 101, 32]⟩ ++ ⟨x0.toArray⟩ ++ ⟨#[32, 111, 102, 32, 91, 32, 93, 32, 61, 62, 32]⟩ ++ ⟨x1.toArray⟩ ++ ⟨#[32, 124, 32]⟩ ++ n2 ++ ⟨#[32, 58, 58, 32]⟩ ++ n3 ++ ⟨#[32, 61, 62, 32]⟩) (⟨x4.toArray⟩) (by simp only [ByteArray.size_append, size_mk, cs0, cs1, cs3, cs4, cs5]; omega)
  have kc9 := fun (W : World) => run_string_add_sum (P := Tryz.prog) W (⟨#[99, 97, 115, 101, 32]⟩ ++ ⟨x0.toArray⟩ ++ ⟨#[32, 111, 102, 32, 91, 32, 93, 32, 61, 62, 32]⟩ ++ ⟨x1.toArray⟩ ++ ⟨#[32, 124, 32]⟩ ++ n2 ++ ⟨#[32, 58, 58, 32]⟩ ++ n3 ++ ⟨#[32, 61, 62, 32]⟩ ++ ⟨x4.toArray⟩) (⟨#[32, 101, 110, 100]⟩) (by simp only [ByteArray.size_append, size_mk, cs0, cs1, cs2, cs3, cs4, cs5]; omega)
  clear cs0  cs1  cs2  cs3  cs4  cs5
  go_region_held3 (fun w' => w'.cell? ⟨g, o, none⟩ = some (.int .i64 k0) ∧ w'.cell? ⟨g, o + 1, none⟩ = some (.int .i64 p0) ∧ w'.cell? ⟨g, o + 2, none⟩ = some (.string n0) ∧ w'.cell? ⟨g, o + 3, none⟩ = some (.int .i64 m0) ∧ w'.cell? ⟨g, o + 4, none⟩ = some (v0) ∧ w'.cell? ⟨g, o + 5, none⟩ = some (.int .i64 k1) ∧ w'.cell? ⟨g, o + 5 + 1, none⟩ = some (.int .i64 p1) ∧ w'.cell? ⟨g, o + 5 + 2, none⟩ = some (.string n1) ∧ w'.cell? ⟨g, o + 5 + 3, none⟩ = some (.int .i64 m1) ∧ w'.cell? ⟨g, o + 5 + 4, none⟩ = some (v1) ∧ w'.cell? ⟨g, o + 10 + 2, none⟩ = some (.string n2) ∧ w'.cell? ⟨g, o + 15 + 2, none⟩ = some (.string n3) ∧ w'.cell? ⟨g, o + 20, none⟩ = some (.int .i64 k4) ∧ w'.cell? ⟨g, o + 20 + 1, none⟩ = some (.int .i64 p4) ∧ w'.cell? ⟨g, o + 20 + 2, none⟩ = some (.string n4) ∧ w'.cell? ⟨g, o + 20 + 3, none⟩ = some (.int .i64 m4) ∧ w'.cell? ⟨g, o + 20 + 4, none⟩ = some (v4)) (go_keep)
    ((first
      | (go_at_call_of 10 (Value.agg #[.int .i64 k0, .int .i64 p0, .string n0, .int .i64 m0, v0]); refine (H0.out _ (by repeat (with_reducible (first | exact HB0.out | apply Below.drew)))).mono ?_; rintro en w1 ⟨rfl, HC1⟩
         have HB1 : Hid (Below w.heap.size w w1) := Below.trans (by repeat (with_reducible (first | exact HB0.out | apply Below.drew))) (HC1.out.mono (Nat.le_of_lt hH0))
         have hH1 : w.heap.size < w1.heap.size := Nat.lt_of_lt_of_le hH0 HC1.out.size
         have hG1 : g < w1.heap.size := Nat.lt_of_lt_of_le hG0 HC1.out.size
         have e00_1 := past_cells HC1.out hG0 e00
         have e01_1 := past_cells HC1.out hG0 e01
         have e02_1 := past_cells HC1.out hG0 e02
         have e03_1 := past_cells HC1.out hG0 e03
         have e04_1 := past_cells HC1.out hG0 e04
         have e10_1 := past_cells HC1.out hG0 e10
         have e11_1 := past_cells HC1.out hG0 e11
         have e12_1 := past_cells HC1.out hG0 e12
         have e13_1 := past_cells HC1.out hG0 e13
         have e14_1 := past_cells HC1.out hG0 e14
         have e22_1 := past_cells HC1.out hG0 e22
         have e32_1 := past_cells HC1.out hG0 e32
         have e40_1 := past_cells HC1.out hG0 e40
         have e41_1 := past_cells HC1.out hG0 e41
         have e42_1 := past_cells HC1.out hG0 e42
         have e43_1 := past_cells HC1.out hG0 e43
         have e44_1 := past_cells HC1.out hG0 e44)
      | (go_at_call_of 10 (Value.agg #[.int .i64 k1, .int .i64 p1, .string n1, .int .i64 m1, v1]); refine (H1.out _ (by repeat (with_reducible (first | exact HB1.out | apply Below.drew)))).mono ?_; rintro en w2 ⟨rfl, HC2⟩
         have HB2 : Hid (Below w.heap.size w w2) := Below.trans (by repeat (with_reducible (first | exact HB1.out | apply Below.drew))) (HC2.out.mono (Nat.le_of_lt hH1))
         have hH2 : w.heap.size < w2.heap.size := Nat.lt_of_lt_of_le hH1 HC2.out.size
         have hG2 : g < w2.heap.size := Nat.lt_of_lt_of_le hG1 HC2.out.size
         have e00_2 := past_cells HC2.out hG1 e00_1
         have e01_2 := past_cells HC2.out hG1 e01_1
         have e02_2 := past_cells HC2.out hG1 e02_1
         have e03_2 := past_cells HC2.out hG1 e03_1
         have e04_2 := past_cells HC2.out hG1 e04_1
         have e10_2 := past_cells HC2.out hG1 e10_1
         have e11_2 := past_cells HC2.out hG1 e11_1
         have e12_2 := past_cells HC2.out hG1 e12_1
         have e13_2 := past_cells HC2.out hG1 e13_1
         have e14_2 := past_cells HC2.out hG1 e14_1
         have e22_2 := past_cells HC2.out hG1 e22_1
         have e32_2 := past_cells HC2.out hG1 e32_1
         have e40_2 := past_cells HC2.out hG1 e40_1
         have e41_2 := past_cells HC2.out hG1 e41_1
         have e42_2 := past_cells HC2.out hG1 e42_1
         have e43_2 := past_cells HC2.out hG1 e43_1
         have e44_2 := past_cells HC2.out hG1 e44_1)
      | (go_at_call_of 10 (Value.agg #[.int .i64 k4, .int .i64 p4, .string n4, .int .i64 m4, v4]); refine (H4.out _ (by repeat (with_reducible (first | exact HB2.out | apply Below.drew)))).mono ?_; rintro en w3 ⟨rfl, HC3⟩
         have HB3 : Hid (Below w.heap.size w w3) := Below.trans (by repeat (with_reducible (first | exact HB2.out | apply Below.drew))) (HC3.out.mono (Nat.le_of_lt hH2))
         have hH3 : w.heap.size < w3.heap.size := Nat.lt_of_lt_of_le hH2 HC3.out.size
         have hG3 : g < w3.heap.size := Nat.lt_of_lt_of_le hG2 HC3.out.size
         have e00_3 := past_cells HC3.out hG2 e00_2
         have e01_3 := past_cells HC3.out hG2 e01_2
         have e02_3 := past_cells HC3.out hG2 e02_2
         have e03_3 := past_cells HC3.out hG2 e03_2
         have e04_3 := past_cells HC3.out hG2 e04_2
         have e10_3 := past_cells HC3.out hG2 e10_2
         have e11_3 := past_cells HC3.out hG2 e11_2
         have e12_3 := past_cells HC3.out hG2 e12_2
         have e13_3 := past_cells HC3.out hG2 e13_2
         have e14_3 := past_cells HC3.out hG2 e14_2
         have e22_3 := past_cells HC3.out hG2 e22_2
         have e32_3 := past_cells HC3.out hG2 e32_2
         have e40_3 := past_cells HC3.out hG2 e40_2
         have e41_3 := past_cells HC3.out hG2 e41_2
         have e42_3 := past_cells HC3.out hG2 e42_2
         have e43_3 := past_cells HC3.out hG2 e43_2
         have e44_3 := past_cells HC3.out hG2 e44_2)))
  all_goals
    go_wp2_with fail
    go_ret
    refine str_fin (by simp [ByteArray.data_append]) ?_
    repeat (with_reducible (first | exact HB3.out | apply Below.drew))

set_option maxRecDepth 100000 in
set_option maxHeartbeats 16000000 in
theorem wk_do (w : World) (p m : Int) (nm : ByteArray) (g o c : Nat) (k0 p0 : Int) (n0 : ByteArray) (m0 : Int) (v0 : Value) (x0 : List UInt8) (_hc : 1 ≤ c) (hN : nm.size ≤ 1000000000) (hg : g < w.heap.size) (E0 : Nod w g (o) k0 p0 n0 m0 v0) (hx0 : x0.length ≤ 1000000000) (h0 : IOK w (Value.agg #[.int .i64 k0, .int .i64 p0, .string n0, .int .i64 m0, v0]) 6 x0)  :
    Calls Tryz.prog 10 #[.agg #[.int .i64 19, .int .i64 p, .string nm, .int .i64 m, .slice (some ⟨g, o, none⟩) 1 c]] w fun en w' => StrRes w ([100, 111, 32] ++ nm.data.toList ++ [32] ++ x0) en w' := by
  have H0 := hid h0
  clear h0
  go_enter Tryz.func10, Tryz.ntmps10
  go_upto_region 54 with fail
  obtain ⟨W, hW⟩ : ∃ W, W = w.alloc (.cells #[.int .i64 19, .int .i64 p, .string nm, .int .i64 m, .slice (some ⟨g, o, none⟩) 1 c] 24) := ⟨_, rfl⟩
  rw [← hW]
  have HB0 : Hid (Below w.heap.size w W) := by rw [hW]; exact (Below.refl _ _).alloc (Nat.le_refl _) _
  have hH0 : w.heap.size < W.heap.size := by rw [hW]; simp
  have hG0 : g < W.heap.size := by omega
  have b2 : W.cell? ⟨w.heap.size, 2, none⟩ = some (.string nm) := by rw [hW]; simp [go_sem]
  obtain ⟨e00, e01, e02, e03, e04⟩ := E0
  replace e00 := past_cells HB0.out hg e00
  replace e01 := past_cells HB0.out hg e01
  replace e02 := past_cells HB0.out hg e02
  replace e03 := past_cells HB0.out hg e03
  replace e04 := past_cells HB0.out hg e04
  clear hW
  have cs0 : (⟨#[32]⟩ : ByteArray).size = 1 := rfl
  have cs1 : (⟨#[100, 111, 32]⟩ : ByteArray).size = 3 := rfl
  have kc0 := fun (W : World) => run_string_add_sum (P := Tryz.prog) W (⟨#[100, 111, 32]⟩) (nm) (by simp only [cs1]; omega)
  have kc1 := fun (W : World) => run_string_add_sum (P := Tryz.prog) W (⟨#[100, 111, 32]⟩ ++ nm) (⟨#[32]⟩) (by simp only [ByteArray.size_append, cs0, cs1]; omega)
  have kc2 := fun (W : World) => run_string_add_sum (P := Tryz.prog) W (⟨#[100, 111, 32]⟩ ++ nm ++ ⟨#[32]⟩) (⟨x0.toArray⟩) (by simp only [ByteArray.size_append, size_mk, cs0, cs1]; omega)
  clear cs0  cs1
  go_region_held3 (fun w' => w'.cell? ⟨w.heap.size, 2, none⟩ = some (.string nm) ∧ w'.cell? ⟨g, o, none⟩ = some (.int .i64 k0) ∧ w'.cell? ⟨g, o + 1, none⟩ = some (.int .i64 p0) ∧ w'.cell? ⟨g, o + 2, none⟩ = some (.string n0) ∧ w'.cell? ⟨g, o + 3, none⟩ = some (.int .i64 m0) ∧ w'.cell? ⟨g, o + 4, none⟩ = some (v0)) (go_keep)
    ((first
      | (go_at_call_of 24 (Value.agg #[.int .i64 k0, .int .i64 p0, .string n0, .int .i64 m0, v0]); refine (H0.out _ (by repeat (with_reducible (first | exact HB0.out | apply Below.drew)))).mono ?_; rintro en w1 ⟨rfl, HC1⟩
         have HB1 : Hid (Below w.heap.size w w1) := Below.trans (by repeat (with_reducible (first | exact HB0.out | apply Below.drew))) (HC1.out.mono (Nat.le_of_lt hH0))
         have hH1 : w.heap.size < w1.heap.size := Nat.lt_of_lt_of_le hH0 HC1.out.size
         have hG1 : g < w1.heap.size := Nat.lt_of_lt_of_le hG0 HC1.out.size
         have b2_1 := past_cells HC1.out hH0 b2
         have e00_1 := past_cells HC1.out hG0 e00
         have e01_1 := past_cells HC1.out hG0 e01
         have e02_1 := past_cells HC1.out hG0 e02
         have e03_1 := past_cells HC1.out hG0 e03
         have e04_1 := past_cells HC1.out hG0 e04)))
  all_goals
    go_wp2_with fail
    go_ret
    refine str_fin (by simp [ByteArray.data_append]) ?_
    repeat (with_reducible (first | exact HB1.out | apply Below.drew))

set_option maxRecDepth 100000 in
set_option maxHeartbeats 16000000 in
theorem wk_ypair (w : World) (p m : Int) (nm : ByteArray) (g o c : Nat) (k0 p0 : Int) (n0 : ByteArray) (m0 : Int) (v0 : Value) (k1 p1 : Int) (n1 : ByteArray) (m1 : Int) (v1 : Value) (x0 : List UInt8) (x1 : List UInt8) (_hc : 2 ≤ c) (_hN : nm.size ≤ 1000000000) (hg : g < w.heap.size) (E0 : Nod w g (o) k0 p0 n0 m0 v0) (E1 : Nod w g (o + 5) k1 p1 n1 m1 v1) (hx0 : x0.length ≤ 1000000000) (h0 : IOK w (Value.agg #[.int .i64 k0, .int .i64 p0, .string n0, .int .i64 m0, v0]) 2 x0) (hx1 : x1.length ≤ 1000000000) (h1 : IOK w (Value.agg #[.int .i64 k1, .int .i64 p1, .string n1, .int .i64 m1, v1]) 1 x1)  :
    Calls Tryz.prog 10 #[.agg #[.int .i64 28, .int .i64 p, .string nm, .int .i64 m, .slice (some ⟨g, o, none⟩) 2 c]] w fun en w' => StrRes w (x0 ++ [32, 42, 32] ++ x1) en w' := by
  have H0 := hid h0
  have H1 := hid h1
  clear h0 h1
  go_enter Tryz.func10, Tryz.ntmps10
  go_upto_region 66 with fail
  obtain ⟨W, hW⟩ : ∃ W, W = w.alloc (.cells #[.int .i64 28, .int .i64 p, .string nm, .int .i64 m, .slice (some ⟨g, o, none⟩) 2 c] 24) := ⟨_, rfl⟩
  rw [← hW]
  have HB0 : Hid (Below w.heap.size w W) := by rw [hW]; exact (Below.refl _ _).alloc (Nat.le_refl _) _
  have hH0 : w.heap.size < W.heap.size := by rw [hW]; simp
  have hG0 : g < W.heap.size := by omega
  have b2 : W.cell? ⟨w.heap.size, 2, none⟩ = some (.string nm) := by rw [hW]; simp [go_sem]
  obtain ⟨e00, e01, e02, e03, e04⟩ := E0
  replace e00 := past_cells HB0.out hg e00
  replace e01 := past_cells HB0.out hg e01
  replace e02 := past_cells HB0.out hg e02
  replace e03 := past_cells HB0.out hg e03
  replace e04 := past_cells HB0.out hg e04
  obtain ⟨e10, e11, e12, e13, e14⟩ := E1
  replace e10 := past_cells HB0.out hg e10
  replace e11 := past_cells HB0.out hg e11
  replace e12 := past_cells HB0.out hg e12
  replace e13 := past_cells HB0.out hg e13
  replace e14 := past_cells HB0.out hg e14
  clear hW b2
  have cs0 : (⟨#[32, 42, 32]⟩ : ByteArray).size = 3 := rfl
  have kc0 := fun (W : World) => run_string_add_sum (P := Tryz.prog) W (⟨x0.toArray⟩) (⟨#[32, 42, 32]⟩) (by simp only [size_mk, cs0]; omega)
  have kc1 := fun (W : World) => run_string_add_sum (P := Tryz.prog) W (⟨x0.toArray⟩ ++ ⟨#[32, 42, 32]⟩) (⟨x1.toArray⟩) (by simp only [ByteArray.size_append, size_mk, cs0]; omega)
  clear cs0
  go_region_held3 (fun w' => w'.cell? ⟨g, o, none⟩ = some (.int .i64 k0) ∧ w'.cell? ⟨g, o + 1, none⟩ = some (.int .i64 p0) ∧ w'.cell? ⟨g, o + 2, none⟩ = some (.string n0) ∧ w'.cell? ⟨g, o + 3, none⟩ = some (.int .i64 m0) ∧ w'.cell? ⟨g, o + 4, none⟩ = some (v0) ∧ w'.cell? ⟨g, o + 5, none⟩ = some (.int .i64 k1) ∧ w'.cell? ⟨g, o + 5 + 1, none⟩ = some (.int .i64 p1) ∧ w'.cell? ⟨g, o + 5 + 2, none⟩ = some (.string n1) ∧ w'.cell? ⟨g, o + 5 + 3, none⟩ = some (.int .i64 m1) ∧ w'.cell? ⟨g, o + 5 + 4, none⟩ = some (v1)) (go_keep)
    ((first
      | (go_at_call_of 24 (Value.agg #[.int .i64 k0, .int .i64 p0, .string n0, .int .i64 m0, v0]); refine (H0.out _ (by repeat (with_reducible (first | exact HB0.out | apply Below.drew)))).mono ?_; rintro en w1 ⟨rfl, HC1⟩
         have HB1 : Hid (Below w.heap.size w w1) := Below.trans (by repeat (with_reducible (first | exact HB0.out | apply Below.drew))) (HC1.out.mono (Nat.le_of_lt hH0))
         have hH1 : w.heap.size < w1.heap.size := Nat.lt_of_lt_of_le hH0 HC1.out.size
         have hG1 : g < w1.heap.size := Nat.lt_of_lt_of_le hG0 HC1.out.size
         have e00_1 := past_cells HC1.out hG0 e00
         have e01_1 := past_cells HC1.out hG0 e01
         have e02_1 := past_cells HC1.out hG0 e02
         have e03_1 := past_cells HC1.out hG0 e03
         have e04_1 := past_cells HC1.out hG0 e04
         have e10_1 := past_cells HC1.out hG0 e10
         have e11_1 := past_cells HC1.out hG0 e11
         have e12_1 := past_cells HC1.out hG0 e12
         have e13_1 := past_cells HC1.out hG0 e13
         have e14_1 := past_cells HC1.out hG0 e14)
      | (go_at_call_of 24 (Value.agg #[.int .i64 k1, .int .i64 p1, .string n1, .int .i64 m1, v1]); refine (H1.out _ (by repeat (with_reducible (first | exact HB1.out | apply Below.drew)))).mono ?_; rintro en w2 ⟨rfl, HC2⟩
         have HB2 : Hid (Below w.heap.size w w2) := Below.trans (by repeat (with_reducible (first | exact HB1.out | apply Below.drew))) (HC2.out.mono (Nat.le_of_lt hH1))
         have hH2 : w.heap.size < w2.heap.size := Nat.lt_of_lt_of_le hH1 HC2.out.size
         have hG2 : g < w2.heap.size := Nat.lt_of_lt_of_le hG1 HC2.out.size
         have e00_2 := past_cells HC2.out hG1 e00_1
         have e01_2 := past_cells HC2.out hG1 e01_1
         have e02_2 := past_cells HC2.out hG1 e02_1
         have e03_2 := past_cells HC2.out hG1 e03_1
         have e04_2 := past_cells HC2.out hG1 e04_1
         have e10_2 := past_cells HC2.out hG1 e10_1
         have e11_2 := past_cells HC2.out hG1 e11_1
         have e12_2 := past_cells HC2.out hG1 e12_1
         have e13_2 := past_cells HC2.out hG1 e13_1
         have e14_2 := past_cells HC2.out hG1 e14_1)))
  all_goals
    go_wp2_with fail
    go_ret
    refine str_fin (by simp [ByteArray.data_append]) ?_
    repeat (with_reducible (first | exact HB2.out | apply Below.drew))
end Go.Proofs.YtddnnlldkdljoaaGreatDoor
