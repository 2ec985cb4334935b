/-
  What the document writes of a handler.
  What the document writes of a program.
-/
import Derived.Test.YtddnnlldkdljoaaGreatDoorMWb
namespace Go.Proofs.YtddnnlldkdljoaaGreatDoor
open Go.RowKit

/-- A clause of a handler: its operation, two names, what its body is written as. -/
structure Clause where
  op : List UInt8
  a : List UInt8
  b : List UInt8
  x : List UInt8
def clT (q : Clause) : List UInt8 := [32, 124, 32] ++ q.op ++ [32] ++ q.a ++ [32] ++ q.b ++ [32, 61, 62, 32] ++ q.x
def clsT (l : List Clause) : List UInt8 := l.flatMap clT
/-- A clause in memory. -/
def ClAt (w : World) (g o : Nat) (q : Clause) : Prop := ∃ (k p m : Int) (g2 o2 c2 : Nat) (k2 p2 : Int) (n2 : ByteArray) (m2 : Int) (v2 : Value), Nod w g o k p ⟨q.op.toArray⟩ m (.slice (some ⟨g2, o2, none⟩) 3 c2) ∧ 3 ≤ c2 ∧ g2 < w.heap.size ∧
  w.cell? ⟨g2, o2 + 2, none⟩ = some (.string ⟨q.a.toArray⟩) ∧ w.cell? ⟨g2, o2 + 5 + 2, none⟩ = some (.string ⟨q.b.toArray⟩) ∧ Nod w g2 (o2 + 10) k2 p2 n2 m2 v2 ∧ WOK w (Value.agg #[.int .i64 k2, .int .i64 p2, .string n2, .int .i64 m2, v2]) q.x
theorem ba_len (b : ByteArray) : b.data.toList.length = b.size := Array.length_toList
theorem clsT_step (l : List Clause) (j : Nat) (h : j < l.length) : clsT (l.take (j + 1)) = clsT (l.take j) ++ clT l[j] := by
  unfold clsT
  rw [List.take_succ_eq_append_getElem h, List.flatMap_append]
  rw [List.flatMap_cons, List.flatMap_nil, List.append_nil]
theorem clsT_len (l : List Clause) (j : Nat) : (clsT (l.take j)).length ≤ (clsT l).length := by
  have : clsT l = clsT (l.take j) ++ clsT (l.drop j) := by
    unfold clsT
    rw [← List.flatMap_append, List.take_append_drop]
  rw [this, List.length_append]
  omega

set_option maxRecDepth 100000 in
set_option maxHeartbeats 16000000 in
theorem handle_any (w : World) (p m : Int) (nm rn : ByteArray) (g o c L g1 o1 c1 : Nat) (k0 p0 : Int) (n0 : ByteArray) (m0 : Int) (v0 : Value) (k1 p1 : Int) (n1 : ByteArray) (m1 : Int) (v1 : Value) (x0 x1 : List UInt8) (cls : List Clause) (hL : L = cls.length + 2) (hLb : L ≤ 100000) (_hc : L ≤ c) (hg : g < w.heap.size) (hg1 : g1 < w.heap.size) (_hc1 : 1 ≤ c1)
    (E0 : Nod w g o k0 p0 n0 m0 v0) (rc : w.cell? ⟨g, o + 5 + 2, none⟩ = some (.string rn)) (rv : w.cell? ⟨g, o + 5 + 4, none⟩ = some (.slice (some ⟨g1, o1, none⟩) 1 c1)) (E1 : Nod w g1 o1 k1 p1 n1 m1 v1)
    (hN : ∀ j (h : j < cls.length), ClAt w g (o + (j + 2) * 5) cls[j]) (hx0 : x0.length ≤ 1000000000) (hx1 : x1.length ≤ 1000000000) (hrn : rn.size ≤ 1000000000) (hcl : (clsT cls).length ≤ 1000000000)
    (h0 : WOK w (Value.agg #[.int .i64 k0, .int .i64 p0, .string n0, .int .i64 m0, v0]) x0) (h1 : WOK w (Value.agg #[.int .i64 k1, .int .i64 p1, .string n1, .int .i64 m1, v1]) x1) :
    Calls Tryz.prog 27 #[.agg #[.int .i64 20, .int .i64 p, .string nm, .int .i64 m, .slice (some ⟨g, o, none⟩) L c]] w fun en w' => StrRes w ((if m = 1 then [115, 104, 97, 108, 108, 111, 119, 32] else [104, 97, 110, 100, 108, 101, 32]) ++ x0 ++ [32, 119, 105, 116, 104, 32, 123, 32, 114, 101, 116, 117, 114, 110, 32] ++ rn.data.toList ++ [32, 61, 62, 32] ++ x1 ++ clsT cls ++ [32, 125]) en w' := by
  generalize hres : (if m = 1 then [115, 104, 97, 108, 108, 111, 119, 32] else [104, 97, 110, 100, 108, 101, 32]) ++ x0 ++ [32, 119, 105, 116, 104, 32, 123, 32, 114, 101, 116, 117, 114, 110, 32] ++ rn.data.toList ++ [32, 61, 62, 32] ++ x1 ++ clsT cls ++ [32, 125] = res
  have HR := hid hres
  clear hres
  have H0 := hid h0
  have H1 := hid h1
  have HNS := hid hN
  have HLL := hid hL
  have i0 : 0 < L := by omega
  have i1 : 1 < L := by omega
  have i2 : (0 : Int) < (L : Int) := by omega
  have i3 : (1 : Int) < (L : Int) := by omega
  clear h0 h1 hN hL
  obtain ⟨e00, e01, e02, e03, e04⟩ := E0
  obtain ⟨e10, e11, e12, e13, e14⟩ := E1
  go_enter Tryz.func27, Tryz.ntmps27
  go_upto_region 1 with fail
  obtain ⟨W, hW⟩ : ∃ W, W = w.alloc (.cells #[.int .i64 20, .int .i64 p, .string nm, .int .i64 m, .slice (some ⟨g, o, none⟩) L c] 24) := ⟨_, rfl⟩
  rw [← hW]
  have HB0 : Hid (Below w.heap.size w W) := by rw [hW]; exact (Below.refl _ _).alloc (Nat.le_refl _) _
  have hH0 : w.heap.size < W.heap.size := by rw [hW]; simp
  have hG0 : g < W.heap.size := by omega
  have hJ0 : g1 < W.heap.size := by omega
  have b3 : W.cell? ⟨w.heap.size, 3, none⟩ = some (.int .i64 m) := by rw [hW]; simp [go_sem]
  have b4 : W.cell? ⟨w.heap.size, 4, none⟩ = some (.slice (some ⟨g, o, none⟩) L c) := by rw [hW]; simp [go_sem]
  replace e00 := past_cells HB0.out hg e00
  replace e01 := past_cells HB0.out hg e01
  replace e02 := past_cells HB0.out hg e02
  replace e03 := past_cells HB0.out hg e03
  replace e04 := past_cells HB0.out hg e04
  replace e10 := past_cells HB0.out hg1 e10
  replace e11 := past_cells HB0.out hg1 e11
  replace e12 := past_cells HB0.out hg1 e12
  replace e13 := past_cells HB0.out hg1 e13
  replace e14 := past_cells HB0.out hg1 e14
  replace rc := past_cells HB0.out hg rc
  replace rv := past_cells HB0.out hg rv
  clear hW
  by_cases hm : m = 1
  · subst hm
    rw [if_pos rfl] at HR
    go_upto_region 4 with fail
    have hPs : (⟨#[115, 104, 97, 108, 108, 111, 119, 32]⟩ : ByteArray).size = 8 := rfl
    have cs0 : (⟨#[32, 119, 105, 116, 104, 32, 123, 32, 114, 101, 116, 117, 114, 110, 32]⟩ : ByteArray).size = 15 := rfl
    have cs1 : (⟨#[32, 61, 62, 32]⟩ : ByteArray).size = 4 := rfl
    have kc0 := fun (W : World) => run_string_add_sum (P := Tryz.prog) W (⟨#[115, 104, 97, 108, 108, 111, 119, 32]⟩) (⟨x0.toArray⟩) (by simp only [size_mk, hPs]; omega)
    have kc1 := fun (W : World) => run_string_add_sum (P := Tryz.prog) W (⟨#[115, 104, 97, 108, 108, 111, 119, 32]⟩ ++ ⟨x0.toArray⟩) (⟨#[32, 119, 105, 116, 104, 32, 123, 32, 114, 101, 116, 117, 114, 110, 32]⟩) (by simp only [ByteArray.size_append, size_mk, hPs, cs0]; omega)
    have kc2 := fun (W : World) => run_string_add_sum (P := Tryz.prog) W (⟨#[115, 104, 97, 108, 108, 111, 119, 32]⟩ ++ ⟨x0.toArray⟩ ++ ⟨#[32, 119, 105, 116, 104, 32, 123, 32, 114, 101, 116, 117, 114, 110, 32]⟩) (rn) (by simp only [ByteArray.size_append, size_mk, hPs, cs0]; omega)
    have kc3 := fun (W : World) => run_string_add_sum (P := Tryz.prog) W (⟨#[115, 104, 97, 108, 108, 111, 119, 32]⟩ ++ ⟨x0.toArray⟩ ++ ⟨#[32, 119, 105, 116, 104, 32, 123, 32, 114, 101, 116, 117, 114, 110, 32]⟩ ++ rn) (⟨#[32, 61, 62, 32]⟩) (by simp only [ByteArray.size_append, size_mk, hPs, cs0, cs1]; omega)
    have kc4 := fun (W : World) => run_string_add_sum (P := Tryz.prog) W (⟨#[115, 104, 97, 108, 108, 111, 119, 32]⟩ ++ ⟨x0.toArray⟩ ++ ⟨#[32, 119, 105, 116, 104, 32, 123, 32, 114, 101, 116, 117, 114, 110, 32]⟩ ++ rn ++ ⟨#[32, 61, 62, 32]⟩) (⟨x1.toArray⟩) (by simp only [ByteArray.size_append, size_mk, hPs, cs0, cs1]; omega)
    clear cs0  cs1
    clear hPs
    go_region_held3 (fun w' => w'.cell? ⟨w.heap.size, 4, none⟩ = some (.slice (some ⟨g, o, none⟩) L c) ∧ w'.cell? ⟨g, o, none⟩ = some (.int .i64 k0) ∧ w'.cell? ⟨g, o + 1, none⟩ = some (.int .i64 p0) ∧ w'.cell? ⟨g, o + 2, none⟩ = some (.string n0) ∧ w'.cell? ⟨g, o + 3, none⟩ = some (.int .i64 m0) ∧ w'.cell? ⟨g, o + 4, none⟩ = some (v0) ∧ w'.cell? ⟨g, o + 5 + 2, none⟩ = some (.string rn) ∧ w'.cell? ⟨g, o + 5 + 4, none⟩ = some (.slice (some ⟨g1, o1, none⟩) 1 c1) ∧ w'.cell? ⟨g1, o1, none⟩ = some (.int .i64 k1) ∧ w'.cell? ⟨g1, o1 + 1, none⟩ = some (.int .i64 p1) ∧ w'.cell? ⟨g1, o1 + 2, none⟩ = some (.string n1) ∧ w'.cell? ⟨g1, o1 + 3, none⟩ = some (.int .i64 m1) ∧ w'.cell? ⟨g1, o1 + 4, none⟩ = some (v1)) (go_keep)
      ((first
        | (go_at_call_of 10 (Value.agg #[.int .i64 k0, .int .i64 p0, .string n0, .int .i64 m0, v0]); refine (H0.out _ (by repeat (with_reducible (first | exact HB0.out | apply Below.drew)))).mono ?_; rintro en w1 ⟨rfl, HC1⟩
           have HB1 : Hid (Below w.heap.size w w1) := Below.trans (by repeat (with_reducible (first | exact HB0.out | apply Below.drew))) (HC1.out.mono (Nat.le_of_lt hH0))
           have hH1 : w.heap.size < w1.heap.size := Nat.lt_of_lt_of_le hH0 HC1.out.size
           have hG1 : g < w1.heap.size := Nat.lt_of_lt_of_le hG0 HC1.out.size
           have hJ1 : g1 < w1.heap.size := Nat.lt_of_lt_of_le hJ0 HC1.out.size
           have b4_1 := past_cells HC1.out hH0 b4
           have e00_1 := past_cells HC1.out hG0 e00
           have e01_1 := past_cells HC1.out hG0 e01
           have e02_1 := past_cells HC1.out hG0 e02
           have e03_1 := past_cells HC1.out hG0 e03
           have e04_1 := past_cells HC1.out hG0 e04
           have rc_1 := past_cells HC1.out hG0 rc
           have rv_1 := past_cells HC1.out hG0 rv
           have e10_1 := past_cells HC1.out hJ0 e10
           have e11_1 := past_cells HC1.out hJ0 e11
           have e12_1 := past_cells HC1.out hJ0 e12
           have e13_1 := past_cells HC1.out hJ0 e13
           have e14_1 := past_cells HC1.out hJ0 e14)
        | (go_at_call_of 10 (Value.agg #[.int .i64 k1, .int .i64 p1, .string n1, .int .i64 m1, v1]); refine (H1.out _ (by repeat (with_reducible (first | exact HB1.out | apply Below.drew)))).mono ?_; rintro en w2 ⟨rfl, HC2⟩
           have HB2 : Hid (Below w.heap.size w w2) := Below.trans (by repeat (with_reducible (first | exact HB1.out | apply Below.drew))) (HC2.out.mono (Nat.le_of_lt hH1))
           have hH2 : w.heap.size < w2.heap.size := Nat.lt_of_lt_of_le hH1 HC2.out.size
           have hG2 : g < w2.heap.size := Nat.lt_of_lt_of_le hG1 HC2.out.size
           have hJ2 : g1 < w2.heap.size := Nat.lt_of_lt_of_le hJ1 HC2.out.size
           have b4_2 := past_cells HC2.out hH1 b4_1
           have e00_2 := past_cells HC2.out hG1 e00_1
           have e01_2 := past_cells HC2.out hG1 e01_1
           have e02_2 := past_cells HC2.out hG1 e02_1
           have e03_2 := past_cells HC2.out hG1 e03_1
           have e04_2 := past_cells HC2.out hG1 e04_1
           have rc_2 := past_cells HC2.out hG1 rc_1
           have rv_2 := past_cells HC2.out hG1 rv_1
           have e10_2 := past_cells HC2.out hJ1 e10_1
           have e11_2 := past_cells HC2.out hJ1 e11_1
           have e12_2 := past_cells HC2.out hJ1 e12_1
           have e13_2 := past_cells HC2.out hJ1 e13_1
           have e14_2 := past_cells HC2.out hJ1 e14_1)))
    all_goals
      go_wp2_with fail
      generalize hyd : (⟨#[115, 104, 97, 108, 108, 111, 119, 32]⟩ ++ ⟨x0.toArray⟩ ++ ⟨#[32, 119, 105, 116, 104, 32, 123, 32, 114, 101, 116, 117, 114, 110, 32]⟩ ++ rn ++ ⟨#[32, 61, 62, 32]⟩ ++ ⟨x1.toArray⟩ : ByteArray) = Y
      have HY : Hid (Y.data.toList = [115, 104, 97, 108, 108, 111, 119, 32] ++ x0 ++ [32, 119, 105, 116, 104, 32, 123, 32, 114, 101, 116, 117, 114, 110, 32] ++ rn.data.toList ++ [32, 61, 62, 32] ++ x1) := by rw [Hid, ← hyd]; simp [ByteArray.data_append]
      have hYs : Y.size ≤ 4000000000 := by
        have h1 := congrArg List.length HY.out
        have h2 : Y.data.toList.length = Y.size := ba_len Y
        have h3 : rn.data.toList.length = rn.size := ba_len rn
        rw [h2] at h1
        simp only [List.length_append, h3, List.length_cons, List.length_nil] at h1
        omega
      clear hyd
      go_loopw [3, 4] (fun s v wr => ∃ (q : Nat) (y : ByteArray), v = .int .i64 q ∧ s = .string y ∧ 2 ≤ q ∧ q ≤ L ∧ y.size ≤ 5000000000 ∧ Hid (y.data.toList = Y.data.toList ++ clsT (cls.take (q - 2))) ∧ Hid (Below w.heap.size w wr) ∧ wr.cell? ⟨w.heap.size, 4, none⟩ = some (.slice (some ⟨g, o, none⟩) L c) ∧ Hid (w.heap.size < wr.heap.size)) (fun _ v _ => L - (intOf v).toNat)
      case atStart => exact ⟨2, Y, rfl, rfl, by omega, by omega, by omega, by simp [Hid, clsT], (by refine hid ?_; repeat (with_reducible (first | exact HB2.out | apply Below.drew))), (by simpa [go_sem] using b4_2), hH2⟩
      case round =>
        obtain ⟨q, y, rfl, rfl, hq2, hqL, hys, HYY, HBR, b4q, hHR⟩ := hrel
        by_cases hlt : q < L
        · have hlt2 : q - 2 < cls.length := by have := HLL.out; omega
          have hclat := HNS.out (q - 2) hlt2
          rw [show q - 2 + 2 = q by omega] at hclat
          have HJ := hid (clsT_step cls (q - 2) hlt2)
          rw [show q - 2 + 1 = q + 1 - 2 by omega] at HJ
          have hcl2 := clsT_len cls (q + 1 - 2)
          generalize cls[q - 2] = cl at hclat HJ
          have hjl : cl.op.length ≤ 1000000000 ∧ cl.a.length ≤ 1000000000 ∧ cl.b.length ≤ 1000000000 ∧ cl.x.length ≤ 1000000000 := by
            have h1 := congrArg List.length HJ.out
            simp only [List.length_append, clT] at h1
            omega
          obtain ⟨j1, j2, j3, j4⟩ := hjl
          obtain ⟨ck, cp, cm, g2, o2, c2, k2, p2, n2, m2, v2, cN, hc2, hg2, ca, cb, cE, cW⟩ := hclat
          have CW := hid cW
          obtain ⟨d0, d1, d2, d3, d4⟩ := Nod.past cN hg HBR.out
          have hgR : g < wr.heap.size := Nat.lt_of_lt_of_le hg HBR.out.size
          have hgn : ¬ g = wr.heap.size := by omega
          have hg2R : g2 < wr.heap.size := Nat.lt_of_lt_of_le hg2 HBR.out.size
          obtain ⟨ce0, ce1, ce2, ce3, ce4⟩ := Nod.past cE hg2 HBR.out
          replace ca := past_cells HBR.out hg2 ca
          replace cb := past_cells HBR.out hg2 cb
          clear cW cN cE
          have hqi : (q : Int) < (L : Int) := by omega
          go_upto_region 9 with fail
          obtain ⟨X, hX⟩ : ∃ X, X = wr.alloc (.cells #[.int .i64 ck, .int .i64 cp, .string ⟨cl.op.toArray⟩, .int .i64 cm, .slice (some ⟨g2, o2, none⟩) 3 c2] 24) := ⟨_, rfl⟩
          rw [← hX]
          have hBX : Below wr.heap.size wr X := by rw [hX]; exact (Below.refl _ _).alloc (Nat.le_refl _) _
          have HD0 : Hid (Below w.heap.size w X) := HBR.out.trans (hBX.mono (Nat.le_of_lt hHR.out))
          have hX0 : wr.heap.size < X.heap.size := by rw [hX]; simp
          have hH0 : w.heap.size < X.heap.size := Nat.lt_trans hHR.out hX0
          have hK0 : g2 < X.heap.size := Nat.lt_trans hg2R hX0
          have bx2 : X.cell? ⟨wr.heap.size, 2, none⟩ = some (.string ⟨cl.op.toArray⟩) := by rw [hX]; simp [go_sem]
          have bx4 : X.cell? ⟨wr.heap.size, 4, none⟩ = some (.slice (some ⟨g2, o2, none⟩) 3 c2) := by rw [hX]; simp [go_sem]
          replace b4q := past_cells hBX hHR.out b4q
          replace ca := past_cells hBX hg2R ca
          replace cb := past_cells hBX hg2R cb
          replace ce0 := past_cells hBX hg2R ce0
          replace ce1 := past_cells hBX hg2R ce1
          replace ce2 := past_cells hBX hg2R ce2
          replace ce3 := past_cells hBX hg2R ce3
          replace ce4 := past_cells hBX hg2R ce4
          clear hX hBX d0 d1 d2 d3 d4
          have cs0 : (⟨#[32, 124, 32]⟩ : ByteArray).size = 3 := rfl
          have cs1 : (⟨#[32]⟩ : ByteArray).size = 1 := rfl
          have cs2 : (⟨#[32, 61, 62, 32]⟩ : ByteArray).size = 4 := rfl
          have kc0 := fun (W : World) => run_string_add_sum (P := Tryz.prog) W (y) (⟨#[32, 124, 32]⟩) (by simp only [cs0]; omega)
          have kc1 := fun (W : World) => run_string_add_sum (P := Tryz.prog) W (y ++ ⟨#[32, 124, 32]⟩) (⟨cl.op.toArray⟩) (by simp only [ByteArray.size_append, size_mk, cs0]; omega)
          have kc2 := fun (W : World) => run_string_add_sum (P := Tryz.prog) W (y ++ ⟨#[32, 124, 32]⟩ ++ ⟨cl.op.toArray⟩) (⟨#[32]⟩) (by simp only [ByteArray.size_append, size_mk, cs0, cs1]; omega)
          have kc3 := fun (W : World) => run_string_add_sum (P := Tryz.prog) W (y ++ ⟨#[32, 124, 32]⟩ ++ ⟨cl.op.toArray⟩ ++ ⟨#[32]⟩) (⟨cl.a.toArray⟩) (by simp only [ByteArray.size_append, size_mk, cs0, cs1]; omega)
          have kc4 := fun (W : World) => run_string_add_sum (P := Tryz.prog) W (y ++ ⟨#[32, 124, 32]⟩ ++ ⟨cl.op.toArray⟩ ++ ⟨#[32]⟩ ++ ⟨cl.a.toArray⟩) (⟨#[32]⟩) (by simp only [ByteArray.size_append, size_mk, cs0, cs1]; omega)
          have kc5 := fun (W : World) => run_string_add_sum (P := Tryz.prog) W (y ++ ⟨#[32, 124, 32]⟩ ++ ⟨cl.op.toArray⟩ ++ ⟨#[32]⟩ ++ ⟨cl.a.toArray⟩ ++ ⟨#[32]⟩) (⟨cl.b.toArray⟩) (by simp only [ByteArray.size_append, size_mk, cs0, cs1]; omega)
          have kc6 := fun (W : World) => run_string_add_sum (P := Tryz.prog) W (y ++ ⟨#[32, 124, 32]⟩ ++ ⟨cl.op.toArray⟩ ++ ⟨#[32]⟩ ++ ⟨cl.a.toArray⟩ ++ ⟨#[32]⟩ ++ ⟨cl.b.toArray⟩) (⟨#[32, 61, 62, 32]⟩) (by simp only [ByteArray.size_append, size_mk, cs0, cs1, cs2]; omega)
          have kc7 := fun (W : World) => run_string_add_sum (P := Tryz.prog) W (y ++ ⟨#[32, 124, 32]⟩ ++ ⟨cl.op.toArray⟩ ++ ⟨#[32]⟩ ++ ⟨cl.a.toArray⟩ ++ ⟨#[32]⟩ ++ ⟨cl.b.toArray⟩ ++ ⟨#[32, 61, 62, 32]⟩) (⟨cl.x.toArray⟩) (by simp only [ByteArray.size_append, size_mk, cs0, cs1, cs2]; omega)
          clear cs0  cs1  cs2
          go_region_held3 (fun w' => w'.cell? ⟨w.heap.size, 4, none⟩ = some (.slice (some ⟨g, o, none⟩) L c) ∧ w'.cell? ⟨wr.heap.size, 2, none⟩ = some (.string ⟨cl.op.toArray⟩) ∧ w'.cell? ⟨wr.heap.size, 4, none⟩ = some (.slice (some ⟨g2, o2, none⟩) 3 c2) ∧ w'.cell? ⟨g2, o2 + 2, none⟩ = some (.string ⟨cl.a.toArray⟩) ∧ w'.cell? ⟨g2, o2 + 5 + 2, none⟩ = some (.string ⟨cl.b.toArray⟩) ∧ w'.cell? ⟨g2, o2 + 10, none⟩ = some (.int .i64 k2) ∧ w'.cell? ⟨g2, o2 + 10 + 1, none⟩ = some (.int .i64 p2) ∧ w'.cell? ⟨g2, o2 + 10 + 2, none⟩ = some (.string n2) ∧ w'.cell? ⟨g2, o2 + 10 + 3, none⟩ = some (.int .i64 m2) ∧ w'.cell? ⟨g2, o2 + 10 + 4, none⟩ = some (v2)) (go_keep)
            ((first
              | (go_at_call_of 10 (Value.agg #[.int .i64 k2, .int .i64 p2, .string n2, .int .i64 m2, v2]); refine (CW.out _ (by repeat (with_reducible (first | exact HD0.out | apply Below.drew)))).mono ?_; rintro en u1 ⟨rfl, HC1⟩
                 have HD1 : Hid (Below w.heap.size w u1) := Below.trans (by repeat (with_reducible (first | exact HD0.out | apply Below.drew))) (HC1.out.mono (Nat.le_of_lt hH0))
                 have hH1 : w.heap.size < u1.heap.size := Nat.lt_of_lt_of_le hH0 HC1.out.size
                 have hX1 : wr.heap.size < u1.heap.size := Nat.lt_of_lt_of_le hX0 HC1.out.size
                 have hK1 : g2 < u1.heap.size := Nat.lt_of_lt_of_le hK0 HC1.out.size
                 have b4q_1 := past_cells HC1.out hH0 b4q
                 have bx2_1 := past_cells HC1.out hX0 bx2
                 have bx4_1 := past_cells HC1.out hX0 bx4
                 have ca_1 := past_cells HC1.out hK0 ca
                 have cb_1 := past_cells HC1.out hK0 cb
                 have ce0_1 := past_cells HC1.out hK0 ce0
                 have ce1_1 := past_cells HC1.out hK0 ce1
                 have ce2_1 := past_cells HC1.out hK0 ce2
                 have ce3_1 := past_cells HC1.out hK0 ce3
                 have ce4_1 := past_cells HC1.out hK0 ce4)))
          all_goals
            go_wp2_with fail
            go_roundw
            case rel =>
              have hfin : (y ++ ⟨#[32, 124, 32]⟩ ++ ⟨cl.op.toArray⟩ ++ ⟨#[32]⟩ ++ ⟨cl.a.toArray⟩ ++ ⟨#[32]⟩ ++ ⟨cl.b.toArray⟩ ++ ⟨#[32, 61, 62, 32]⟩ ++ ⟨cl.x.toArray⟩ : ByteArray).data.toList = Y.data.toList ++ clsT (cls.take (q + 1 - 2)) := by rw [HJ.out, ← List.append_assoc, ← HYY.out]; simp [ByteArray.data_append, clT]
              refine ⟨q + 1, _, by go_num, rfl, by omega, by omega, ?_, hfin, (by refine hid ?_; repeat (with_reducible (first | exact HD1.out | apply Below.drew))), (by simpa [go_sem] using b4q_1), hH1⟩
              have h1 := congrArg List.length hfin
              have h2 := ba_len
              rw [h2, List.length_append, h2] at h1
              omega
            case measure => simp [intOf] <;> omega
        · have hqe : q - 2 = cls.length := by have := HLL.out; omega
          rw [hqe, List.take_length] at HYY
          clear hqe
          go_wp2_with fail
          go_ret
          refine str_fin ?_ HBR.out
          rw [← HR.out]
          simp [ByteArray.data_append, HYY.out, HY.out]
  · rw [if_neg hm] at HR
    go_upto_region 4 with fail
    have hPs : (⟨#[104, 97, 110, 100, 108, 101, 32]⟩ : ByteArray).size = 7 := rfl
    have cs0 : (⟨#[32, 119, 105, 116, 104, 32, 123, 32, 114, 101, 116, 117, 114, 110, 32]⟩ : ByteArray).size = 15 := rfl
    have cs1 : (⟨#[32, 61, 62, 32]⟩ : ByteArray).size = 4 := rfl
    have kc0 := fun (W : World) => run_string_add_sum (P := Tryz.prog) W (⟨#[104, 97, 110, 100, 108, 101, 32]⟩) (⟨x0.toArray⟩) (by simp only [size_mk, hPs]; omega)
    have kc1 := fun (W : World) => run_string_add_sum (P := Tryz.prog) W (⟨#[104, 97, 110, 100, 108, 101, 32]⟩ ++ ⟨x0.toArray⟩) (⟨#[32, 119, 105, 116, 104, 32, 123, 32, 114, 101, 116, 117, 114, 110, 32]⟩) (by simp only [ByteArray.size_append, size_mk, hPs, cs0]; omega)
    have kc2 := fun (W : World) => run_string_add_sum (P := Tryz.prog) W (⟨#[104, 97, 110, 100, 108, 101, 32]⟩ ++ ⟨x0.toArray⟩ ++ ⟨#[32, 119, 105, 116, 104, 32, 123, 32, 114, 101, 116, 117, 114, 110, 32]⟩) (rn) (by simp only [ByteArray.size_append, size_mk, hPs, cs0]; omega)
    have kc3 := fun (W : World) => run_string_add_sum (P := Tryz.prog) W (⟨#[104, 97, 110, 100, 108, 101, 32]⟩ ++ ⟨x0.toArray⟩ ++ ⟨#[32, 119, 105, 116, 104, 32, 123, 32, 114, 101, 116, 117, 114, 110, 32]⟩ ++ rn) (⟨#[32, 61, 62, 32]⟩) (by simp only [ByteArray.size_append, size_mk, hPs, cs0, cs1]; omega)
    have kc4 := fun (W : World) => run_string_add_sum (P := Tryz.prog) W (⟨#[104, 97, 110, 100, 108, 101, 32]⟩ ++ ⟨x0.toArray⟩ ++ ⟨#[32, 119, 105, 116, 104, 32, 123, 32, 114, 101, 116, 117, 114, 110, 32]⟩ ++ rn ++ ⟨#[32, 61, 62, 32]⟩) (⟨x1.toArray⟩) (by simp only [ByteArray.size_append, size_mk, hPs, cs0, cs1]; omega)
    clear cs0  cs1
    clear hPs
    go_region_held3 (fun w' => w'.cell? ⟨w.heap.size, 4, none⟩ = some (.slice (some ⟨g, o, none⟩) L c) ∧ w'.cell? ⟨g, o, none⟩ = some (.int .i64 k0) ∧ w'.cell? ⟨g, o + 1, none⟩ = some (.int .i64 p0) ∧ w'.cell? ⟨g, o + 2, none⟩ = some (.string n0) ∧ w'.cell? ⟨g, o + 3, none⟩ = some (.int .i64 m0) ∧ w'.cell? ⟨g, o + 4, none⟩ = some (v0) ∧ w'.cell? ⟨g, o + 5 + 2, none⟩ = some (.string rn) ∧ w'.cell? ⟨g, o + 5 + 4, none⟩ = some (.slice (some ⟨g1, o1, none⟩) 1 c1) ∧ w'.cell? ⟨g1, o1, none⟩ = some (.int .i64 k1) ∧ w'.cell? ⟨g1, o1 + 1, none⟩ = some (.int .i64 p1) ∧ w'.cell? ⟨g1, o1 + 2, none⟩ = some (.string n1) ∧ w'.cell? ⟨g1, o1 + 3, none⟩ = some (.int .i64 m1) ∧ w'.cell? ⟨g1, o1 + 4, none⟩ = some (v1)) (go_keep)
      ((first
        | (go_at_call_of 10 (Value.agg #[.int .i64 k0, .int .i64 p0, .string n0, .int .i64 m0, v0]); refine (H0.out _ (by repeat (with_reducible (first | exact HB0.out | apply Below.drew)))).mono ?_; rintro en w1 ⟨rfl, HC1⟩
           have HB1 : Hid (Below w.heap.size w w1) := Below.trans (by repeat (with_reducible (first | exact HB0.out | apply Below.drew))) (HC1.out.mono (Nat.le_of_lt hH0))
           have hH1 : w.heap.size < w1.heap.size := Nat.lt_of_lt_of_le hH0 HC1.out.size
           have hG1 : g < w1.heap.size := Nat.lt_of_lt_of_le hG0 HC1.out.size
           have hJ1 : g1 < w1.heap.size := Nat.lt_of_lt_of_le hJ0 HC1.out.size
           have b4_1 := past_cells HC1.out hH0 b4
           have e00_1 := past_cells HC1.out hG0 e00
           have e01_1 := past_cells HC1.out hG0 e01
           have e02_1 := past_cells HC1.out hG0 e02
           have e03_1 := past_cells HC1.out hG0 e03
           have e04_1 := past_cells HC1.out hG0 e04
           have rc_1 := past_cells HC1.out hG0 rc
           have rv_1 := past_cells HC1.out hG0 rv
           have e10_1 := past_cells HC1.out hJ0 e10
           have e11_1 := past_cells HC1.out hJ0 e11
           have e12_1 := past_cells HC1.out hJ0 e12
           have e13_1 := past_cells HC1.out hJ0 e13
           have e14_1 := past_cells HC1.out hJ0 e14)
        | (go_at_call_of 10 (Value.agg #[.int .i64 k1, .int .i64 p1, .string n1, .int .i64 m1, v1]); refine (H1.out _ (by repeat (with_reducible (first | exact HB1.out | apply Below.drew)))).mono ?_; rintro en w2 ⟨rfl, HC2⟩
           have HB2 : Hid (Below w.heap.size w w2) := Below.trans (by repeat (with_reducible (first | exact HB1.out | apply Below.drew))) (HC2.out.mono (Nat.le_of_lt hH1))
           have hH2 : w.heap.size < w2.heap.size := Nat.lt_of_lt_of_le hH1 HC2.out.size
           have hG2 : g < w2.heap.size := Nat.lt_of_lt_of_le hG1 HC2.out.size
           have hJ2 : g1 < w2.heap.size := Nat.lt_of_lt_of_le hJ1 HC2.out.size
           have b4_2 := past_cells HC2.out hH1 b4_1
           have e00_2 := past_cells HC2.out hG1 e00_1
           have e01_2 := past_cells HC2.out hG1 e01_1
           have e02_2 := past_cells HC2.out hG1 e02_1
           have e03_2 := past_cells HC2.out hG1 e03_1
           have e04_2 := past_cells HC2.out hG1 e04_1
           have rc_2 := past_cells HC2.out hG1 rc_1
           have rv_2 := past_cells HC2.out hG1 rv_1
           have e10_2 := past_cells HC2.out hJ1 e10_1
           have e11_2 := past_cells HC2.out hJ1 e11_1
           have e12_2 := past_cells HC2.out hJ1 e12_1
           have e13_2 := past_cells HC2.out hJ1 e13_1
           have e14_2 := past_cells HC2.out hJ1 e14_1)))
    all_goals
      go_wp2_with fail
      generalize hyd : (⟨#[104, 97, 110, 100, 108, 101, 32]⟩ ++ ⟨x0.toArray⟩ ++ ⟨#[32, 119, 105, 116, 104, 32, 123, 32, 114, 101, 116, 117, 114, 110, 32]⟩ ++ rn ++ ⟨#[32, 61, 62, 32]⟩ ++ ⟨x1.toArray⟩ : ByteArray) = Y
      have HY : Hid (Y.data.toList = [104, 97, 110, 100, 108, 101, 32] ++ x0 ++ [32, 119, 105, 116, 104, 32, 123, 32, 114, 101, 116, 117, 114, 110, 32] ++ rn.data.toList ++ [32, 61, 62, 32] ++ x1) := by rw [Hid, ← hyd]; simp [ByteArray.data_append]
      have hYs : Y.size ≤ 4000000000 := by
        have h1 := congrArg List.length HY.out
        have h2 : Y.data.toList.length = Y.size := ba_len Y
        have h3 : rn.data.toList.length = rn.size := ba_len rn
        rw [h2] at h1
        simp only [List.length_append, h3, List.length_cons, List.length_nil] at h1
        omega
      clear hyd
      go_loopw [3, 4] (fun s v wr => ∃ (q : Nat) (y : ByteArray), v = .int .i64 q ∧ s = .string y ∧ 2 ≤ q ∧ q ≤ L ∧ y.size ≤ 5000000000 ∧ Hid (y.data.toList = Y.data.toList ++ clsT (cls.take (q - 2))) ∧ Hid (Below w.heap.size w wr) ∧ wr.cell? ⟨w.heap.size, 4, none⟩ = some (.slice (some ⟨g, o, none⟩) L c) ∧ Hid (w.heap.size < wr.heap.size)) (fun _ v _ => L - (intOf v).toNat)
      case atStart => exact ⟨2, Y, rfl, rfl, by omega, by omega, by omega, by simp [Hid, clsT], (by refine hid ?_; repeat (with_reducible (first | exact HB2.out | apply Below.drew))), (by simpa [go_sem] using b4_2), hH2⟩
      case round =>
        obtain ⟨q, y, rfl, rfl, hq2, hqL, hys, HYY, HBR, b4q, hHR⟩ := hrel
        by_cases hlt : q < L
        · have hlt2 : q - 2 < cls.length := by have := HLL.out; omega
          have hclat := HNS.out (q - 2) hlt2
          rw [show q - 2 + 2 = q by omega] at hclat
          have HJ := hid (clsT_step cls (q - 2) hlt2)
          rw [show q - 2 + 1 = q + 1 - 2 by omega] at HJ
          have hcl2 := clsT_len cls (q + 1 - 2)
          generalize cls[q - 2] = cl at hclat HJ
          have hjl : cl.op.length ≤ 1000000000 ∧ cl.a.length ≤ 1000000000 ∧ cl.b.length ≤ 1000000000 ∧ cl.x.length ≤ 1000000000 := by
            have h1 := congrArg List.length HJ.out
            simp only [List.length_append, clT] at h1
            omega
          obtain ⟨j1, j2, j3, j4⟩ := hjl
          obtain ⟨ck, cp, cm, g2, o2, c2, k2, p2, n2, m2, v2, cN, hc2, hg2, ca, cb, cE, cW⟩ := hclat
          have CW := hid cW
          obtain ⟨d0, d1, d2, d3, d4⟩ := Nod.past cN hg HBR.out
          have hgR : g < wr.heap.size := Nat.lt_of_lt_of_le hg HBR.out.size
          have hgn : ¬ g = wr.heap.size := by omega
          have hg2R : g2 < wr.heap.size := Nat.lt_of_lt_of_le hg2 HBR.out.size
          obtain ⟨ce0, ce1, ce2, ce3, ce4⟩ := Nod.past cE hg2 HBR.out
          replace ca := past_cells HBR.out hg2 ca
          replace cb := past_cells HBR.out hg2 cb
          clear cW cN cE
          have hqi : (q : Int) < (L : Int) := by omega
          go_upto_region 9 with fail
          obtain ⟨X, hX⟩ : ∃ X, X = wr.alloc (.cells #[.int .i64 ck, .int .i64 cp, .string ⟨cl.op.toArray⟩, .int .i64 cm, .slice (some ⟨g2, o2, none⟩) 3 c2] 24) := ⟨_, rfl⟩
          rw [← hX]
          have hBX : Below wr.heap.size wr X := by rw [hX]; exact (Below.refl _ _).alloc (Nat.le_refl _) _
          have HD0 : Hid (Below w.heap.size w X) := HBR.out.trans (hBX.mono (Nat.le_of_lt hHR.out))
          have hX0 : wr.heap.size < X.heap.size := by rw [hX]; simp
          have hH0 : w.heap.size < X.heap.size := Nat.lt_trans hHR.out hX0
          have hK0 : g2 < X.heap.size := Nat.lt_trans hg2R hX0
          have bx2 : X.cell? ⟨wr.heap.size, 2, none⟩ = some (.string ⟨cl.op.toArray⟩) := by rw [hX]; simp [go_sem]
          have bx4 : X.cell? ⟨wr.heap.size, 4, none⟩ = some (.slice (some ⟨g2, o2, none⟩) 3 c2) := by rw [hX]; simp [go_sem]
          replace b4q := past_cells hBX hHR.out b4q
          replace ca := past_cells hBX hg2R ca
          replace cb := past_cells hBX hg2R cb
          replace ce0 := past_cells hBX hg2R ce0
          replace ce1 := past_cells hBX hg2R ce1
          replace ce2 := past_cells hBX hg2R ce2
          replace ce3 := past_cells hBX hg2R ce3
          replace ce4 := past_cells hBX hg2R ce4
          clear hX hBX d0 d1 d2 d3 d4
          have cs0 : (⟨#[32, 124, 32]⟩ : ByteArray).size = 3 := rfl
          have cs1 : (⟨#[32]⟩ : ByteArray).size = 1 := rfl
          have cs2 : (⟨#[32, 61, 62, 32]⟩ : ByteArray).size = 4 := rfl
          have kc0 := fun (W : World) => run_string_add_sum (P := Tryz.prog) W (y) (⟨#[32, 124, 32]⟩) (by simp only [cs0]; omega)
          have kc1 := fun (W : World) => run_string_add_sum (P := Tryz.prog) W (y ++ ⟨#[32, 124, 32]⟩) (⟨cl.op.toArray⟩) (by simp only [ByteArray.size_append, size_mk, cs0]; omega)
          have kc2 := fun (W : World) => run_string_add_sum (P := Tryz.prog) W (y ++ ⟨#[32, 124, 32]⟩ ++ ⟨cl.op.toArray⟩) (⟨#[32]⟩) (by simp only [ByteArray.size_append, size_mk, cs0, cs1]; omega)
          have kc3 := fun (W : World) => run_string_add_sum (P := Tryz.prog) W (y ++ ⟨#[32, 124, 32]⟩ ++ ⟨cl.op.toArray⟩ ++ ⟨#[32]⟩) (⟨cl.a.toArray⟩) (by simp only [ByteArray.size_append, size_mk, cs0, cs1]; omega)
          have kc4 := fun (W : World) => run_string_add_sum (P := Tryz.prog) W (y ++ ⟨#[32, 124, 32]⟩ ++ ⟨cl.op.toArray⟩ ++ ⟨#[32]⟩ ++ ⟨cl.a.toArray⟩) (⟨#[32]⟩) (by simp only [ByteArray.size_append, size_mk, cs0, cs1]; omega)
          have kc5 := fun (W : World) => run_string_add_sum (P := Tryz.prog) W (y ++ ⟨#[32, 124, 32]⟩ ++ ⟨cl.op.toArray⟩ ++ ⟨#[32]⟩ ++ ⟨cl.a.toArray⟩ ++ ⟨#[32]⟩) (⟨cl.b.toArray⟩) (by simp only [ByteArray.size_append, size_mk, cs0, cs1]; omega)
          have kc6 := fun (W : World) => run_string_add_sum (P := Tryz.prog) W (y ++ ⟨#[32, 124, 32]⟩ ++ ⟨cl.op.toArray⟩ ++ ⟨#[32]⟩ ++ ⟨cl.a.toArray⟩ ++ ⟨#[32]⟩ ++ ⟨cl.b.toArray⟩) (⟨#[32, 61, 62, 32]⟩) (by simp only [ByteArray.size_append, size_mk, cs0, cs1, cs2]; omega)
          have kc7 := fun (W : World) => run_string_add_sum (P := Tryz.prog) W (y ++ ⟨#[32, 124, 32]⟩ ++ ⟨cl.op.toArray⟩ ++ ⟨#[32]⟩ ++ ⟨cl.a.toArray⟩ ++ ⟨#[32]⟩ ++ ⟨cl.b.toArray⟩ ++ ⟨#[32, 61, 62, 32]⟩) (⟨cl.x.toArray⟩) (by simp only [ByteArray.size_append, size_mk, cs0, cs1, cs2]; omega)
          clear cs0  cs1  cs2
          go_region_held3 (fun w' => w'.cell? ⟨w.heap.size, 4, none⟩ = some (.slice (some ⟨g, o, none⟩) L c) ∧ w'.cell? ⟨wr.heap.size, 2, none⟩ = some (.string ⟨cl.op.toArray⟩) ∧ w'.cell? ⟨wr.heap.size, 4, none⟩ = some (.slice (some ⟨g2, o2, none⟩) 3 c2) ∧ w'.cell? ⟨g2, o2 + 2, none⟩ = some (.string ⟨cl.a.toArray⟩) ∧ w'.cell? ⟨g2, o2 + 5 + 2, none⟩ = some (.string ⟨cl.b.toArray⟩) ∧ w'.cell? ⟨g2, o2 + 10, none⟩ = some (.int .i64 k2) ∧ w'.cell? ⟨g2, o2 + 10 + 1, none⟩ = some (.int .i64 p2) ∧ w'.cell? ⟨g2, o2 + 10 + 2, none⟩ = some (.string n2) ∧ w'.cell? ⟨g2, o2 + 10 + 3, none⟩ = some (.int .i64 m2) ∧ w'.cell? ⟨g2, o2 + 10 + 4, none⟩ = some (v2)) (go_keep)
            ((first
              | (go_at_call_of 10 (Value.agg #[.int .i64 k2, .int .i64 p2, .string n2, .int .i64 m2, v2]); refine (CW.out _ (by repeat (with_reducible (first | exact HD0.out | apply Below.drew)))).mono ?_; rintro en u1 ⟨rfl, HC1⟩
                 have HD1 : Hid (Below w.heap.size w u1) := Below.trans (by repeat (with_reducible (first | exact HD0.out | apply Below.drew))) (HC1.out.mono (Nat.le_of_lt hH0))
                 have hH1 : w.heap.size < u1.heap.size := Nat.lt_of_lt_of_le hH0 HC1.out.size
                 have hX1 : wr.heap.size < u1.heap.size := Nat.lt_of_lt_of_le hX0 HC1.out.size
                 have hK1 : g2 < u1.heap.size := Nat.lt_of_lt_of_le hK0 HC1.out.size
                 have b4q_1 := past_cells HC1.out hH0 b4q
                 have bx2_1 := past_cells HC1.out hX0 bx2
                 have bx4_1 := past_cells HC1.out hX0 bx4
                 have ca_1 := past_cells HC1.out hK0 ca
                 have cb_1 := past_cells HC1.out hK0 cb
                 have ce0_1 := past_cells HC1.out hK0 ce0
                 have ce1_1 := past_cells HC1.out hK0 ce1
                 have ce2_1 := past_cells HC1.out hK0 ce2
                 have ce3_1 := past_cells HC1.out hK0 ce3
                 have ce4_1 := past_cells HC1.out hK0 ce4)))
          all_goals
            go_wp2_with fail
            go_roundw
            case rel =>
              have hfin : (y ++ ⟨#[32, 124, 32]⟩ ++ ⟨cl.op.toArray⟩ ++ ⟨#[32]⟩ ++ ⟨cl.a.toArray⟩ ++ ⟨#[32]⟩ ++ ⟨cl.b.toArray⟩ ++ ⟨#[32, 61, 62, 32]⟩ ++ ⟨cl.x.toArray⟩ : ByteArray).data.toList = Y.data.toList ++ clsT (cls.take (q + 1 - 2)) := by rw [HJ.out, ← List.append_assoc, ← HYY.out]; simp [ByteArray.data_append, clT]
              refine ⟨q + 1, _, by go_num, rfl, by omega, by omega, ?_, hfin, (by refine hid ?_; repeat (with_reducible (first | exact HD1.out | apply Below.drew))), (by simpa [go_sem] using b4q_1), hH1⟩
              have h1 := congrArg List.length hfin
              have h2 := ba_len
              rw [h2, List.length_append, h2] at h1
              omega
            case measure => simp [intOf] <;> omega
        · have hqe : q - 2 = cls.length := by have := HLL.out; omega
          rw [hqe, List.take_length] at HYY
          clear hqe
          go_wp2_with fail
          go_ret
          refine str_fin ?_ HBR.out
          rw [← HR.out]
          simp [ByteArray.data_append, HYY.out, HY.out]
end Go.Proofs.YtddnnlldkdljoaaGreatDoor

namespace Go.Proofs.YtddnnlldkdljoaaGreatDoor
open Go.RowKit

def opT (m : Int) (x a b : List UInt8) : List UInt8 := [111, 112, 32] ++ (if m = 1 then [111, 110, 99, 101, 32] else [109, 97, 110, 121, 32]) ++ x ++ [32, 58, 32] ++ a ++ [32, 61, 62, 32] ++ b ++ [32]
def recT (m : Int) : List UInt8 := if m = 1 then [114, 101, 99, 32] else []
def dfT (m : Int) (x a : List UInt8) : List UInt8 := [100, 101, 102, 32] ++ recT m ++ x ++ [32] ++ a ++ [32]
def mnT (a : List UInt8) : List UInt8 := [109, 97, 105, 110, 32, 61, 32] ++ a
/-- What stands at the top of a program, and what it is written as. -/
def ItAt (w : World) (g o : Nat) (x : List UInt8) : Prop := ∃ (ck cp cm : Int) (op : List UInt8) (v : Value), Nod w g o ck cp ⟨op.toArray⟩ cm v ∧
  ((ck = 1 ∧ ∃ (g2 o2 c2 : Nat) (k2 p2 : Int) (n2 : ByteArray) (m2 : Int) (v2 : Value) (k3 p3 : Int) (n3 : ByteArray) (m3 : Int) (v3 : Value) (x2 x3 : List UInt8), v = .slice (some ⟨g2, o2, none⟩) 2 c2 ∧ 2 ≤ c2 ∧ g2 < w.heap.size ∧ Nod w g2 o2 k2 p2 n2 m2 v2 ∧ Nod w g2 (o2 + 5) k3 p3 n3 m3 v3 ∧
      WOK w (Value.agg #[.int .i64 k2, .int .i64 p2, .string n2, .int .i64 m2, v2]) x2 ∧ WOK w (Value.agg #[.int .i64 k3, .int .i64 p3, .string n3, .int .i64 m3, v3]) x3 ∧ x = opT cm op x2 x3) ∨
   (ck = 2 ∧ ∃ (g2 o2 c2 : Nat) (k2 p2 : Int) (n2 : ByteArray) (m2 : Int) (v2 : Value) (x2 : List UInt8), v = .slice (some ⟨g2, o2, none⟩) 1 c2 ∧ 1 ≤ c2 ∧ g2 < w.heap.size ∧ Nod w g2 o2 k2 p2 n2 m2 v2 ∧
      DOK w (Value.agg #[.int .i64 k2, .int .i64 p2, .string n2, .int .i64 m2, v2]) x2 ∧ x = dfT cm op x2) ∨
   (ck ≠ 1 ∧ ck ≠ 2 ∧ (∃ a l c, v = .slice a l c) ∧ ∃ x2, WOK w (Value.agg #[.int .i64 ck, .int .i64 cp, .string ⟨op.toArray⟩, .int .i64 cm, v]) x2 ∧ x = mnT x2))
def itsT (l : List (List UInt8)) : List UInt8 := l.flatten
theorem itsT_step (l : List (List UInt8)) (j : Nat) (h : j < l.length) : itsT (l.take (j + 1)) = itsT (l.take j) ++ l[j] := by
  unfold itsT
  rw [List.take_succ_eq_append_getElem h, List.flatten_append]
  rw [List.flatten_cons, List.flatten_nil, List.append_nil]
theorem itsT_len (l : List (List UInt8)) (j : Nat) : (itsT (l.take j)).length ≤ (itsT l).length := by
  have : itsT l = itsT (l.take j) ++ itsT (l.drop j) := by
    unfold itsT
    rw [← List.flatten_append, List.take_append_drop]
  rw [this, List.length_append]
  omega

set_option maxHeartbeats 1000000 in
theorem rec_any (k p m : Int) (x : ByteArray) (v : Value) (w : World) :
    Calls Tryz.prog 53 #[.agg #[.int .i64 k, .int .i64 p, .string x, .int .i64 m, v]] w fun en w' => StrRes w (recT m) en w' := by
  unfold recT
  by_cases hm : m = 1
  · subst hm
    rw [if_pos rfl]
    go_enter Tryz.func53, Tryz.ntmps53
    go_wp2
    go_ret
    exact str_fin rfl ((Below.refl _ _).alloc (Nat.le_refl _) _)
  · rw [if_neg hm]
    go_enter Tryz.func53, Tryz.ntmps53
    go_wp2
    go_ret
    exact str_fin rfl ((Below.refl _ _).alloc (Nat.le_refl _) _)

set_option maxRecDepth 100000 in
set_option maxHeartbeats 16000000 in
theorem prog_any (w : World) (p m : Int) (nm : ByteArray) (g o c L : Nat) (its : List (List UInt8)) (hL : L = its.length) (hLb : L ≤ 100000) (_hc : L ≤ c) (hg : g < w.heap.size) (hN : ∀ j (h : j < its.length), ItAt w g (o + j * 5) its[j]) (hcl : (itsT its).length ≤ 1000000000) :
    Calls Tryz.prog 22 #[.agg #[.int .i64 0, .int .i64 p, .string nm, .int .i64 m, .slice (some ⟨g, o, none⟩) L c]] w fun en w' => StrRes w (itsT its) en w' := by
  have HNS := hid hN
  have HLL := hid hL
  clear hN hL
  go_enter Tryz.func22, Tryz.ntmps22
  go_upto_region 1 with fail
  obtain ⟨W, hW⟩ : ∃ W, W = w.alloc (.cells #[.int .i64 0, .int .i64 p, .string nm, .int .i64 m, .slice (some ⟨g, o, none⟩) L c] 24) := ⟨_, rfl⟩
  rw [← hW]
  have HB0 : Hid (Below w.heap.size w W) := by rw [hW]; exact (Below.refl _ _).alloc (Nat.le_refl _) _
  have hH0 : w.heap.size < W.heap.size := by rw [hW]; simp
  have b4 : W.cell? ⟨w.heap.size, 4, none⟩ = some (.slice (some ⟨g, o, none⟩) L c) := by rw [hW]; simp [go_sem]
  clear hW
  go_wp2_with fail
  go_loopw [3, 4] (fun s v wr => ∃ (q : Nat) (y : ByteArray), v = .int .i64 q ∧ s = .string y ∧ q ≤ L ∧ y.size ≤ 1000000000 ∧ Hid (y.data.toList = itsT (its.take q)) ∧ Hid (Below w.heap.size w wr) ∧ wr.cell? ⟨w.heap.size, 4, none⟩ = some (.slice (some ⟨g, o, none⟩) L c) ∧ Hid (w.heap.size < wr.heap.size)) (fun _ v _ => L - (intOf v).toNat)
  case atStart => exact ⟨0, ⟨#[]⟩, rfl, rfl, by omega, by decide, by simp [Hid, itsT], HB0, b4, hH0⟩
  case round =>
    obtain ⟨q, y, rfl, rfl, hqL, hys, HYY, HBR, b4q, hHR⟩ := hrel
    by_cases hlt : q < L
    · have hlt2 : q < its.length := by have := HLL.out; omega
      have hit := HNS.out q hlt2
      have HJ := hid (itsT_step its q hlt2)
      have hcl2 := itsT_len its (q + 1)
      generalize its[q] = tx at hit HJ
      have htl : tx.length ≤ 1000000000 := by
        have h1 := congrArg List.length HJ.out
        rw [List.length_append] at h1
        omega
      obtain ⟨ck, cp, cm, op, v, cN, hcase⟩ := hit
      obtain ⟨d0, d1, d2, d3, d4⟩ := Nod.past cN hg HBR.out
      have hgR : g < wr.heap.size := Nat.lt_of_lt_of_le hg HBR.out.size
      have hgn : ¬ g = wr.heap.size := by omega
      clear cN
      rcases hcase with ⟨rfl, g2, o2, c2, k2, p2, n2, m2, v2, k3, p3, n3, m3, v3, x2, x3, rfl, hc2, hg2, cE, cF, cW2, cW3, htx⟩ | ⟨rfl, g2, o2, c2, k2, p2, n2, m2, v2, x2, rfl, hc2, hg2, cE, cW2, htx⟩ | ⟨hk1, hk2, ⟨va, vl, vc, rfl⟩, x2, cW2, htx⟩
      · have CW2 := hid cW2
        have CW3 := hid cW3
        have HTX := hid htx
        have hg2R : g2 < wr.heap.size := Nat.lt_of_lt_of_le hg2 HBR.out.size
        obtain ⟨ce0, ce1, ce2, ce3, ce4⟩ := Nod.past cE hg2 HBR.out
        obtain ⟨cf0, cf1, cf2, cf3, cf4⟩ := Nod.past cF hg2 HBR.out
        have hsz : op.length ≤ 1000000000 ∧ x2.length ≤ 1000000000 ∧ x3.length ≤ 1000000000 := by
          have h1 := congrArg List.length htx
          simp only [List.length_append, opT] at h1
          omega
        obtain ⟨j1, j2, j3⟩ := hsz
        clear cW2 cW3 cE cF htx
        by_cases hm : cm = 1
        · subst hm
          go_upto_region 12 with fail
          have hbox : ∃ X, X = wr.alloc (.cells #[.int .i64 1, .int .i64 cp, .string ⟨op.toArray⟩, .int .i64 1, .slice (some ⟨g2, o2, none⟩) 2 c2] 24) := ⟨_, rfl⟩
          obtain ⟨X, hX⟩ := hbox
          rw [← hX]
          have hBX : Below wr.heap.size wr X := by rw [hX]; exact (Below.refl _ _).alloc (Nat.le_refl _) _
          have HD0 : Hid (Below w.heap.size w X) := HBR.out.trans (hBX.mono (Nat.le_of_lt hHR.out))
          have hX0 : wr.heap.size < X.heap.size := by rw [hX]; simp
          have hH0 : w.heap.size < X.heap.size := Nat.lt_trans hHR.out hX0
          have bx0 : X.cell? ⟨wr.heap.size, 0, none⟩ = some (.int .i64 1) := by rw [hX]; simp [go_sem]
          have bx1 : X.cell? ⟨wr.heap.size, 1, none⟩ = some (.int .i64 cp) := by rw [hX]; simp [go_sem]
          have bx2 : X.cell? ⟨wr.heap.size, 2, none⟩ = some (.string ⟨op.toArray⟩) := by rw [hX]; simp [go_sem]
          have bx3 : X.cell? ⟨wr.heap.size, 3, none⟩ = some (.int .i64 1) := by rw [hX]; simp [go_sem]
          have bx4 : X.cell? ⟨wr.heap.size, 4, none⟩ = some (.slice (some ⟨g2, o2, none⟩) 2 c2) := by rw [hX]; simp [go_sem]
          replace b4q := past_cells hBX hHR.out b4q
          have hK0 : g2 < X.heap.size := Nat.lt_trans hg2R hX0
          replace ce0 := past_cells hBX hg2R ce0
          replace ce1 := past_cells hBX hg2R ce1
          replace ce2 := past_cells hBX hg2R ce2
          replace ce3 := past_cells hBX hg2R ce3
          replace ce4 := past_cells hBX hg2R ce4
          replace cf0 := past_cells hBX hg2R cf0
          replace cf1 := past_cells hBX hg2R cf1
          replace cf2 := past_cells hBX hg2R cf2
          replace cf3 := past_cells hBX hg2R cf3
          replace cf4 := past_cells hBX hg2R cf4
          clear hX hBX d0 d1 d2 d3 d4
          have cs0 : (⟨#[111, 112, 32]⟩ : ByteArray).size = 3 := rfl
          have cs1 : (⟨#[111, 110, 99, 101, 32]⟩ : ByteArray).size = 5 := rfl
          have cs2 : (⟨#[32, 58, 32]⟩ : ByteArray).size = 3 := rfl
          have cs3 : (⟨#[32, 61, 62, 32]⟩ : ByteArray).size = 4 := rfl
          have cs4 : (⟨#[32]⟩ : ByteArray).size = 1 := rfl
          have kc0 := fun (W : World) => run_string_add_sum (P := Tryz.prog) W (y) (⟨#[111, 112, 32]⟩) (by simp only [cs0]; omega)
          have kc1 := fun (W : World) => run_string_add_sum (P := Tryz.prog) W (y ++ ⟨#[111, 112, 32]⟩) (⟨#[111, 110, 99, 101, 32]⟩) (by simp only [ByteArray.size_append, cs0, cs1]; omega)
          have kc2 := fun (W : World) => run_string_add_sum (P := Tryz.prog) W (y ++ ⟨#[111, 112, 32]⟩ ++ ⟨#[111, 110, 99, 101, 32]⟩) (⟨op.toArray⟩) (by simp only [ByteArray.size_append, size_mk, cs0, cs1]; omega)
          have kc3 := fun (W : World) => run_string_add_sum (P := Tryz.prog) W (y ++ ⟨#[111, 112, 32]⟩ ++ ⟨#[111, 110, 99, 101, 32]⟩ ++ ⟨op.toArray⟩) (⟨#[32, 58, 32]⟩) (by simp only [ByteArray.size_append, size_mk, cs0, cs1, cs2]; omega)
          have kc4 := fun (W : World) => run_string_add_sum (P := Tryz.prog) W (y ++ ⟨#[111, 112, 32]⟩ ++ ⟨#[111, 110, 99, 101, 32]⟩ ++ ⟨op.toArray⟩ ++ ⟨#[32, 58, 32]⟩) (⟨x2.toArray⟩) (by simp only [ByteArray.size_append, size_mk, cs0, cs1, cs2]; omega)
          have kc5 := fun (W : World) => run_string_add_sum (P := Tryz.prog) W (y ++ ⟨#[111, 112, 32]⟩ ++ ⟨#[111, 110, 99, 101, 32]⟩ ++ ⟨op.toArray⟩ ++ ⟨#[32, 58, 32]⟩ ++ ⟨x2.toArray⟩) (⟨#[32, 61, 62, 32]⟩) (by simp only [ByteArray.size_append, size_mk, cs0, cs1, cs2, cs3]; omega)
          have kc6 := fun (W : World) => run_string_add_sum (P := Tryz.prog) W (y ++ ⟨#[111, 112, 32]⟩ ++ ⟨#[111, 110, 99, 101, 32]⟩ ++ ⟨op.toArray⟩ ++ ⟨#[32, 58, 32]⟩ ++ ⟨x2.toArray⟩ ++ ⟨#[32, 61, 62, 32]⟩) (⟨x3.toArray⟩) (by simp only [ByteArray.size_append, size_mk, cs0, cs1, cs2, cs3]; omega)
          have kc7 := fun (W : World) => run_string_add_sum (P := Tryz.prog) W (y ++ ⟨#[111, 112, 32]⟩ ++ ⟨#[111, 110, 99, 101, 32]⟩ ++ ⟨op.toArray⟩ ++ ⟨#[32, 58, 32]⟩ ++ ⟨x2.toArray⟩ ++ ⟨#[32, 61, 62, 32]⟩ ++ ⟨x3.toArray⟩) (⟨#[32]⟩) (by simp only [ByteArray.size_append, size_mk, cs0, cs1, cs2, cs3, cs4]; omega)
          clear cs0  cs1  cs2  cs3  cs4
          go_region_held3 (fun w' => w'.cell? ⟨w.heap.size, 4, none⟩ = some (.slice (some ⟨g, o, none⟩) L c) ∧ w'.cell? ⟨wr.heap.size, 2, none⟩ = some (.string ⟨op.toArray⟩) ∧ w'.cell? ⟨wr.heap.size, 4, none⟩ = some (.slice (some ⟨g2, o2, none⟩) 2 c2) ∧ w'.cell? ⟨g2, o2, none⟩ = some (.int .i64 k2) ∧ w'.cell? ⟨g2, o2 + 1, none⟩ = some (.int .i64 p2) ∧ w'.cell? ⟨g2, o2 + 2, none⟩ = some (.string n2) ∧ w'.cell? ⟨g2, o2 + 3, none⟩ = some (.int .i64 m2) ∧ w'.cell? ⟨g2, o2 + 4, none⟩ = some (v2) ∧ w'.cell? ⟨g2, o2 + 5, none⟩ = some (.int .i64 k3) ∧ w'.cell? ⟨g2, o2 + 5 + 1, none⟩ = some (.int .i64 p3) ∧ w'.cell? ⟨g2, o2 + 5 + 2, none⟩ = some (.string n3) ∧ w'.cell? ⟨g2, o2 + 5 + 3, none⟩ = some (.int .i64 m3) ∧ w'.cell? ⟨g2, o2 + 5 + 4, none⟩ = some (v3)) (go_keep)
            ((first
              | (go_at_call_of 10 (Value.agg #[.int .i64 k2, .int .i64 p2, .string n2, .int .i64 m2, v2]); refine (CW2.out _ (by repeat (with_reducible (first | exact HD0.out | apply Below.drew)))).mono ?_; rintro en u1 ⟨rfl, HC1⟩
                 have HD1 : Hid (Below w.heap.size w u1) := Below.trans (by repeat (with_reducible (first | exact HD0.out | apply Below.drew))) (HC1.out.mono (Nat.le_of_lt hH0))
                 have hH1 : w.heap.size < u1.heap.size := Nat.lt_of_lt_of_le hH0 HC1.out.size
                 have hX1 : wr.heap.size < u1.heap.size := Nat.lt_of_lt_of_le hX0 HC1.out.size
                 have hK1 : g2 < u1.heap.size := Nat.lt_of_lt_of_le hK0 HC1.out.size
                 have b4q_1 := past_cells HC1.out hH0 b4q
                 have bx2_1 := past_cells HC1.out hX0 bx2
                 have bx4_1 := past_cells HC1.out hX0 bx4
                 have ce0_1 := past_cells HC1.out hK0 ce0
                 have ce1_1 := past_cells HC1.out hK0 ce1
                 have ce2_1 := past_cells HC1.out hK0 ce2
                 have ce3_1 := past_cells HC1.out hK0 ce3
                 have ce4_1 := past_cells HC1.out hK0 ce4
                 have cf0_1 := past_cells HC1.out hK0 cf0
                 have cf1_1 := past_cells HC1.out hK0 cf1
                 have cf2_1 := past_cells HC1.out hK0 cf2
                 have cf3_1 := past_cells HC1.out hK0 cf3
                 have cf4_1 := past_cells HC1.out hK0 cf4)
              | (go_at_call_of 10 (Value.agg #[.int .i64 k3, .int .i64 p3, .string n3, .int .i64 m3, v3]); refine (CW3.out _ (by repeat (with_reducible (first | exact HD1.out | apply Below.drew)))).mono ?_; rintro en u2 ⟨rfl, HC2⟩
                 have HD2 : Hid (Below w.heap.size w u2) := Below.trans (by repeat (with_reducible (first | exact HD1.out | apply Below.drew))) (HC2.out.mono (Nat.le_of_lt hH1))
                 have hH2 : w.heap.size < u2.heap.size := Nat.lt_of_lt_of_le hH1 HC2.out.size
                 have hX2 : wr.heap.size < u2.heap.size := Nat.lt_of_lt_of_le hX1 HC2.out.size
                 have hK2 : g2 < u2.heap.size := Nat.lt_of_lt_of_le hK1 HC2.out.size
                 have b4q_2 := past_cells HC2.out hH1 b4q_1
                 have bx2_2 := past_cells HC2.out hX1 bx2_1
                 have bx4_2 := past_cells HC2.out hX1 bx4_1
                 have ce0_2 := past_cells HC2.out hK1 ce0_1
                 have ce1_2 := past_cells HC2.out hK1 ce1_1
                 have ce2_2 := past_cells HC2.out hK1 ce2_1
                 have ce3_2 := past_cells HC2.out hK1 ce3_1
                 have ce4_2 := past_cells HC2.out hK1 ce4_1
                 have cf0_2 := past_cells HC2.out hK1 cf0_1
                 have cf1_2 := past_cells HC2.out hK1 cf1_1
                 have cf2_2 := past_cells HC2.out hK1 cf2_1
                 have cf3_2 := past_cells HC2.out hK1 cf3_1
                 have cf4_2 := past_cells HC2.out hK1 cf4_1)))
          all_goals
            go_wp2_with fail
            go_roundw
            case rel =>
              have hfin : (y ++ ⟨#[111, 112, 32]⟩ ++ ⟨#[111, 110, 99, 101, 32]⟩ ++ ⟨op.toArray⟩ ++ ⟨#[32, 58, 32]⟩ ++ ⟨x2.toArray⟩ ++ ⟨#[32, 61, 62, 32]⟩ ++ ⟨x3.toArray⟩ ++ ⟨#[32]⟩ : ByteArray).data.toList = itsT (its.take (q + 1)) := by rw [HJ.out, ← HYY.out, HTX.out]; simp [ByteArray.data_append, opT]
              refine ⟨q + 1, _, by go_num, rfl, by omega, ?_, hfin, (by refine hid ?_; repeat (with_reducible (first | exact HD2.out | apply Below.drew))), (by simpa [go_sem] using b4q_2), hH2⟩
              have h1 := congrArg List.length hfin
              rw [ba_len] at h1
              omega
            case measure => simp [intOf] <;> omega
        · have hmm : ¬ cm = 1 := hm
          go_upto_region 12 with fail
          have hbox : ∃ X, X = wr.alloc (.cells #[.int .i64 1, .int .i64 cp, .string ⟨op.toArray⟩, .int .i64 cm, .slice (some ⟨g2, o2, none⟩) 2 c2] 24) := ⟨_, rfl⟩
          obtain ⟨X, hX⟩ := hbox
          rw [← hX]
          have hBX : Below wr.heap.size wr X := by rw [hX]; exact (Below.refl _ _).alloc (Nat.le_refl _) _
          have HD0 : Hid (Below w.heap.size w X) := HBR.out.trans (hBX.mono (Nat.le_of_lt hHR.out))
          have hX0 : wr.heap.size < X.heap.size := by rw [hX]; simp
          have hH0 : w.heap.size < X.heap.size := Nat.lt_trans hHR.out hX0
          have bx0 : X.cell? ⟨wr.heap.size, 0, none⟩ = some (.int .i64 1) := by rw [hX]; simp [go_sem]
          have bx1 : X.cell? ⟨wr.heap.size, 1, none⟩ = some (.int .i64 cp) := by rw [hX]; simp [go_sem]
          have bx2 : X.cell? ⟨wr.heap.size, 2, none⟩ = some (.string ⟨op.toArray⟩) := by rw [hX]; simp [go_sem]
          have bx3 : X.cell? ⟨wr.heap.size, 3, none⟩ = some (.int .i64 cm) := by rw [hX]; simp [go_sem]
          have bx4 : X.cell? ⟨wr.heap.size, 4, none⟩ = some (.slice (some ⟨g2, o2, none⟩) 2 c2) := by rw [hX]; simp [go_sem]
          replace b4q := past_cells hBX hHR.out b4q
          have hK0 : g2 < X.heap.size := Nat.lt_trans hg2R hX0
          replace ce0 := past_cells hBX hg2R ce0
          replace ce1 := past_cells hBX hg2R ce1
          replace ce2 := past_cells hBX hg2R ce2
          replace ce3 := past_cells hBX hg2R ce3
          replace ce4 := past_cells hBX hg2R ce4
          replace cf0 := past_cells hBX hg2R cf0
          replace cf1 := past_cells hBX hg2R cf1
          replace cf2 := past_cells hBX hg2R cf2
          replace cf3 := past_cells hBX hg2R cf3
          replace cf4 := past_cells hBX hg2R cf4
          clear hX hBX d0 d1 d2 d3 d4
          have cs0 : (⟨#[111, 112, 32]⟩ : ByteArray).size = 3 := rfl
          have cs1 : (⟨#[109, 97, 110, 121, 32]⟩ : ByteArray).size = 5 := rfl
          have cs2 : (⟨#[32, 58, 32]⟩ : ByteArray).size = 3 := rfl
          have cs3 : (⟨#[32, 61, 62, 32]⟩ : ByteArray).size = 4 := rfl
          have cs4 : (⟨#[32]⟩ : ByteArray).size = 1 := rfl
          have kc0 := fun (W : World) => run_string_add_sum (P := Tryz.prog) W (y) (⟨#[111, 112, 32]⟩) (by simp only [cs0]; omega)
          have kc1 := fun (W : World) => run_string_add_sum (P := Tryz.prog) W (y ++ ⟨#[111, 112, 32]⟩) (⟨#[109, 97, 110, 121, 32]⟩) (by simp only [ByteArray.size_append, cs0, cs1]; omega)
          have kc2 := fun (W : World) => run_string_add_sum (P := Tryz.prog) W (y ++ ⟨#[111, 112, 32]⟩ ++ ⟨#[109, 97, 110, 121, 32]⟩) (⟨op.toArray⟩) (by simp only [ByteArray.size_append, size_mk, cs0, cs1]; omega)
          have kc3 := fun (W : World) => run_string_add_sum (P := Tryz.prog) W (y ++ ⟨#[111, 112, 32]⟩ ++ ⟨#[109, 97, 110, 121, 32]⟩ ++ ⟨op.toArray⟩) (⟨#[32, 58, 32]⟩) (by simp only [ByteArray.size_append, size_mk, cs0, cs1, cs2]; omega)
          have kc4 := fun (W : World) => run_string_add_sum (P := Tryz.prog) W (y ++ ⟨#[111, 112, 32]⟩ ++ ⟨#[109, 97, 110, 121, 32]⟩ ++ ⟨op.toArray⟩ ++ ⟨#[32, 58, 32]⟩) (⟨x2.toArray⟩) (by simp only [ByteArray.size_append, size_mk, cs0, cs1, cs2]; omega)
          have kc5 := fun (W : World) => run_string_add_sum (P := Tryz.prog) W (y ++ ⟨#[111, 112, 32]⟩ ++ ⟨#[109, 97, 110, 121, 32]⟩ ++ ⟨op.toArray⟩ ++ ⟨#[32, 58, 32]⟩ ++ ⟨x2.toArray⟩) (⟨#[32, 61, 62, 32]⟩) (by simp only [ByteArray.size_append, size_mk, cs0, cs1, cs2, cs3]; omega)
          have kc6 := fun (W : World) => run_string_add_sum (P := Tryz.prog) W (y ++ ⟨#[111, 112, 32]⟩ ++ ⟨#[109, 97, 110, 121, 32]⟩ ++ ⟨op.toArray⟩ ++ ⟨#[32, 58, 32]⟩ ++ ⟨x2.toArray⟩ ++ ⟨#[32, 61, 62, 32]⟩) (⟨x3.toArray⟩) (by simp only [ByteArray.size_append, size_mk, cs0, cs1, cs2, cs3]; omega)
          have kc7 := fun (W : World) => run_string_add_sum (P := Tryz.prog) W (y ++ ⟨#[111, 112, 32]⟩ ++ ⟨#[109, 97, 110, 121, 32]⟩ ++ ⟨op.toArray⟩ ++ ⟨#[32, 58, 32]⟩ ++ ⟨x2.toArray⟩ ++ ⟨#[32, 61, 62, 32]⟩ ++ ⟨x3.toArray⟩) (⟨#[32]⟩) (by simp only [ByteArray.size_append, size_mk, cs0, cs1, cs2, cs3, cs4]; omega)
          clear cs0  cs1  cs2  cs3  cs4
          go_region_held3 (fun w' => w'.cell? ⟨w.heap.size, 4, none⟩ = some (.slice (some ⟨g, o, none⟩) L c) ∧ w'.cell? ⟨wr.heap.size, 2, none⟩ = some (.string ⟨op.toArray⟩) ∧ w'.cell? ⟨wr.heap.size, 4, none⟩ = some (.slice (some ⟨g2, o2, none⟩) 2 c2) ∧ w'.cell? ⟨g2, o2, none⟩ = some (.int .i64 k2) ∧ w'.cell? ⟨g2, o2 + 1, none⟩ = some (.int .i64 p2) ∧ w'.cell? ⟨g2, o2 + 2, none⟩ = some (.string n2) ∧ w'.cell? ⟨g2, o2 + 3, none⟩ = some (.int .i64 m2) ∧ w'.cell? ⟨g2, o2 + 4, none⟩ = some (v2) ∧ w'.cell? ⟨g2, o2 + 5, none⟩ = some (.int .i64 k3) ∧ w'.cell? ⟨g2, o2 + 5 + 1, none⟩ = some (.int .i64 p3) ∧ w'.cell? ⟨g2, o2 + 5 + 2, none⟩ = some (.string n3) ∧ w'.cell? ⟨g2, o2 + 5 + 3, none⟩ = some (.int .i64 m3) ∧ w'.cell? ⟨g2, o2 + 5 + 4, none⟩ = some (v3)) (go_keep)
            ((first
              | (go_at_call_of 10 (Value.agg #[.int .i64 k2, .int .i64 p2, .string n2, .int .i64 m2, v2]); refine (CW2.out _ (by repeat (with_reducible (first | exact HD0.out | apply Below.drew)))).mono ?_; rintro en u1 ⟨rfl, HC1⟩
                 have HD1 : Hid (Below w.heap.size w u1) := Below.trans (by repeat (with_reducible (first | exact HD0.out | apply Below.drew))) (HC1.out.mono (Nat.le_of_lt hH0))
                 have hH1 : w.heap.size < u1.heap.size := Nat.lt_of_lt_of_le hH0 HC1.out.size
                 have hX1 : wr.heap.size < u1.heap.size := Nat.lt_of_lt_of_le hX0 HC1.out.size
                 have hK1 : g2 < u1.heap.size := Nat.lt_of_lt_of_le hK0 HC1.out.size
                 have b4q_1 := past_cells HC1.out hH0 b4q
                 have bx2_1 := past_cells HC1.out hX0 bx2
                 have bx4_1 := past_cells HC1.out hX0 bx4
                 have ce0_1 := past_cells HC1.out hK0 ce0
                 have ce1_1 := past_cells HC1.out hK0 ce1
                 have ce2_1 := past_cells HC1.out hK0 ce2
                 have ce3_1 := past_cells HC1.out hK0 ce3
                 have ce4_1 := past_cells HC1.out hK0 ce4
                 have cf0_1 := past_cells HC1.out hK0 cf0
                 have cf1_1 := past_cells HC1.out hK0 cf1
                 have cf2_1 := past_cells HC1.out hK0 cf2
                 have cf3_1 := past_cells HC1.out hK0 cf3
                 have cf4_1 := past_cells HC1.out hK0 cf4)
              | (go_at_call_of 10 (Value.agg #[.int .i64 k3, .int .i64 p3, .string n3, .int .i64 m3, v3]); refine (CW3.out _ (by repeat (with_reducible (first | exact HD1.out | apply Below.drew)))).mono ?_; rintro en u2 ⟨rfl, HC2⟩
                 have HD2 : Hid (Below w.heap.size w u2) := Below.trans (by repeat (with_reducible (first | exact HD1.out | apply Below.drew))) (HC2.out.mono (Nat.le_of_lt hH1))
                 have hH2 : w.heap.size < u2.heap.size := Nat.lt_of_lt_of_le hH1 HC2.out.size
                 have hX2 : wr.heap.size < u2.heap.size := Nat.lt_of_lt_of_le hX1 HC2.out.size
                 have hK2 : g2 < u2.heap.size := Nat.lt_of_lt_of_le hK1 HC2.out.size
                 have b4q_2 := past_cells HC2.out hH1 b4q_1
                 have bx2_2 := past_cells HC2.out hX1 bx2_1
                 have bx4_2 := past_cells HC2.out hX1 bx4_1
                 have ce0_2 := past_cells HC2.out hK1 ce0_1
                 have ce1_2 := past_cells HC2.out hK1 ce1_1
                 have ce2_2 := past_cells HC2.out hK1 ce2_1
                 have ce3_2 := past_cells HC2.out hK1 ce3_1
                 have ce4_2 := past_cells HC2.out hK1 ce4_1
                 have cf0_2 := past_cells HC2.out hK1 cf0_1
                 have cf1_2 := past_cells HC2.out hK1 cf1_1
                 have cf2_2 := past_cells HC2.out hK1 cf2_1
                 have cf3_2 := past_cells HC2.out hK1 cf3_1
                 have cf4_2 := past_cells HC2.out hK1 cf4_1)))
          all_goals
            go_wp2_with fail
            go_roundw
            case rel =>
              have hfin : (y ++ ⟨#[111, 112, 32]⟩ ++ ⟨#[109, 97, 110, 121, 32]⟩ ++ ⟨op.toArray⟩ ++ ⟨#[32, 58, 32]⟩ ++ ⟨x2.toArray⟩ ++ ⟨#[32, 61, 62, 32]⟩ ++ ⟨x3.toArray⟩ ++ ⟨#[32]⟩ : ByteArray).data.toList = itsT (its.take (q + 1)) := by rw [HJ.out, ← HYY.out, HTX.out]; simp [ByteArray.data_append, opT, hm]
              refine ⟨q + 1, _, by go_num, rfl, by omega, ?_, hfin, (by refine hid ?_; repeat (with_reducible (first | exact HD2.out | apply Below.drew))), (by simpa [go_sem] using b4q_2), hH2⟩
              have h1 := congrArg List.length hfin
              rw [ba_len] at h1
              omega
            case measure => simp [intOf] <;> omega
      · have CW2 := hid cW2
        have CR := hid (fun (V : World) (_ : Below w.heap.size w V) => rec_any 2 cp cm ⟨op.toArray⟩ (.slice (some ⟨g2, o2, none⟩) 1 c2) V)
        have HTX := hid htx
        have hg2R : g2 < wr.heap.size := Nat.lt_of_lt_of_le hg2 HBR.out.size
        obtain ⟨ce0, ce1, ce2, ce3, ce4⟩ := Nod.past cE hg2 HBR.out
        have hsz : op.length ≤ 1000000000 ∧ x2.length ≤ 1000000000 ∧ (recT cm).length ≤ 1000000000 := by
          have h1 := congrArg List.length htx
          simp only [List.length_append, dfT] at h1
          omega
        obtain ⟨j1, j2, j3⟩ := hsz
        obtain ⟨rx, hrx⟩ : ∃ rx, rx = recT cm := ⟨_, rfl⟩
        rw [← hrx] at CR j3
        have HRX := hid hrx.symm
        clear cW2 cE htx hrx
        go_upto_region 14 with fail
        have hbox : ∃ X, X = wr.alloc (.cells #[.int .i64 2, .int .i64 cp, .string ⟨op.toArray⟩, .int .i64 cm, .slice (some ⟨g2, o2, none⟩) 1 c2] 24) := ⟨_, rfl⟩
        obtain ⟨X, hX⟩ := hbox
        rw [← hX]
        have hBX : Below wr.heap.size wr X := by rw [hX]; exact (Below.refl _ _).alloc (Nat.le_refl _) _
        have HD0 : Hid (Below w.heap.size w X) := HBR.out.trans (hBX.mono (Nat.le_of_lt hHR.out))
        have hX0 : wr.heap.size < X.heap.size := by rw [hX]; simp
        have hH0 : w.heap.size < X.heap.size := Nat.lt_trans hHR.out hX0
        have bx0 : X.cell? ⟨wr.heap.size, 0, none⟩ = some (.int .i64 2) := by rw [hX]; simp [go_sem]
        have bx1 : X.cell? ⟨wr.heap.size, 1, none⟩ = some (.int .i64 cp) := by rw [hX]; simp [go_sem]
        have bx2 : X.cell? ⟨wr.heap.size, 2, none⟩ = some (.string ⟨op.toArray⟩) := by rw [hX]; simp [go_sem]
        have bx3 : X.cell? ⟨wr.heap.size, 3, none⟩ = some (.int .i64 cm) := by rw [hX]; simp [go_sem]
        have bx4 : X.cell? ⟨wr.heap.size, 4, none⟩ = some (.slice (some ⟨g2, o2, none⟩) 1 c2) := by rw [hX]; simp [go_sem]
        replace b4q := past_cells hBX hHR.out b4q
        have hK0 : g2 < X.heap.size := Nat.lt_trans hg2R hX0
        replace ce0 := past_cells hBX hg2R ce0
        replace ce1 := past_cells hBX hg2R ce1
        replace ce2 := past_cells hBX hg2R ce2
        replace ce3 := past_cells hBX hg2R ce3
        replace ce4 := past_cells hBX hg2R ce4
        clear hX hBX d0 d1 d2 d3 d4
        have cs0 : (⟨#[100, 101, 102, 32]⟩ : ByteArray).size = 4 := rfl
        have cs1 : (⟨#[32]⟩ : ByteArray).size = 1 := rfl
        have kc0 := fun (W : World) => run_string_add_sum (P := Tryz.prog) W (y) (⟨#[100, 101, 102, 32]⟩) (by simp only [cs0]; omega)
        have kc1 := fun (W : World) => run_string_add_sum (P := Tryz.prog) W (y ++ ⟨#[100, 101, 102, 32]⟩) (⟨rx.toArray⟩) (by simp only [ByteArray.size_append, size_mk, cs0]; omega)
        have kc2 := fun (W : World) => run_string_add_sum (P := Tryz.prog) W (y ++ ⟨#[100, 101, 102, 32]⟩ ++ ⟨rx.toArray⟩) (⟨op.toArray⟩) (by simp only [ByteArray.size_append, size_mk, cs0]; omega)
        have kc3 := fun (W : World) => run_string_add_sum (P := Tryz.prog) W (y ++ ⟨#[100, 101, 102, 32]⟩ ++ ⟨rx.toArray⟩ ++ ⟨op.toArray⟩) (⟨#[32]⟩) (by simp only [ByteArray.size_append, size_mk, cs0, cs1]; omega)
        have kc4 := fun (W : World) => run_string_add_sum (P := Tryz.prog) W (y ++ ⟨#[100, 101, 102, 32]⟩ ++ ⟨rx.toArray⟩ ++ ⟨op.toArray⟩ ++ ⟨#[32]⟩) (⟨x2.toArray⟩) (by simp only [ByteArray.size_append, size_mk, cs0, cs1]; omega)
        have kc5 := fun (W : World) => run_string_add_sum (P := Tryz.prog) W (y ++ ⟨#[100, 101, 102, 32]⟩ ++ ⟨rx.toArray⟩ ++ ⟨op.toArray⟩ ++ ⟨#[32]⟩ ++ ⟨x2.toArray⟩) (⟨#[32]⟩) (by simp only [ByteArray.size_append, size_mk, cs0, cs1]; omega)
        clear cs0  cs1
        go_region_held3 (fun w' => w'.cell? ⟨w.heap.size, 4, none⟩ = some (.slice (some ⟨g, o, none⟩) L c) ∧ w'.cell? ⟨wr.heap.size, 0, none⟩ = some (.int .i64 2) ∧ w'.cell? ⟨wr.heap.size, 1, none⟩ = some (.int .i64 cp) ∧ w'.cell? ⟨wr.heap.size, 2, none⟩ = some (.string ⟨op.toArray⟩) ∧ w'.cell? ⟨wr.heap.size, 3, none⟩ = some (.int .i64 cm) ∧ w'.cell? ⟨wr.heap.size, 4, none⟩ = some (.slice (some ⟨g2, o2, none⟩) 1 c2) ∧ w'.cell? ⟨g2, o2, none⟩ = some (.int .i64 k2) ∧ w'.cell? ⟨g2, o2 + 1, none⟩ = some (.int .i64 p2) ∧ w'.cell? ⟨g2, o2 + 2, none⟩ = some (.string n2) ∧ w'.cell? ⟨g2, o2 + 3, none⟩ = some (.int .i64 m2) ∧ w'.cell? ⟨g2, o2 + 4, none⟩ = some (v2)) (go_keep)
          ((first
            | (go_at_call_of 53 (Value.agg #[.int .i64 2, .int .i64 cp, .string ⟨op.toArray⟩, .int .i64 cm, .slice (some ⟨g2, o2, none⟩) 1 c2]); refine (CR.out _ (by repeat (with_reducible (first | exact HD0.out | apply Below.drew)))).mono ?_; rintro en u1 ⟨rfl, HC1⟩
               have HD1 : Hid (Below w.heap.size w u1) := Below.trans (by repeat (with_reducible (first | exact HD0.out | apply Below.drew))) (HC1.out.mono (Nat.le_of_lt hH0))
               have hH1 : w.heap.size < u1.heap.size := Nat.lt_of_lt_of_le hH0 HC1.out.size
               have hX1 : wr.heap.size < u1.heap.size := Nat.lt_of_lt_of_le hX0 HC1.out.size
               have hK1 : g2 < u1.heap.size := Nat.lt_of_lt_of_le hK0 HC1.out.size
               have b4q_1 := past_cells HC1.out hH0 b4q
               have bx0_1 := past_cells HC1.out hX0 bx0
               have bx1_1 := past_cells HC1.out hX0 bx1
               have bx2_1 := past_cells HC1.out hX0 bx2
               have bx3_1 := past_cells HC1.out hX0 bx3
               have bx4_1 := past_cells HC1.out hX0 bx4
               have ce0_1 := past_cells HC1.out hK0 ce0
               have ce1_1 := past_cells HC1.out hK0 ce1
               have ce2_1 := past_cells HC1.out hK0 ce2
               have ce3_1 := past_cells HC1.out hK0 ce3
               have ce4_1 := past_cells HC1.out hK0 ce4)
            | (go_at_call_of 25 (Value.agg #[.int .i64 k2, .int .i64 p2, .string n2, .int .i64 m2, v2]); refine (CW2.out _ (by repeat (with_reducible (first | exact HD1.out | apply Below.drew)))).mono ?_; rintro en u2 ⟨rfl, HC2⟩
               have HD2 : Hid (Below w.heap.size w u2) := Below.trans (by repeat (with_reducible (first | exact HD1.out | apply Below.drew))) (HC2.out.mono (Nat.le_of_lt hH1))
               have hH2 : w.heap.size < u2.heap.size := Nat.lt_of_lt_of_le hH1 HC2.out.size
               have hX2 : wr.heap.size < u2.heap.size := Nat.lt_of_lt_of_le hX1 HC2.out.size
               have hK2 : g2 < u2.heap.size := Nat.lt_of_lt_of_le hK1 HC2.out.size
               have b4q_2 := past_cells HC2.out hH1 b4q_1
               have bx0_2 := past_cells HC2.out hX1 bx0_1
               have bx1_2 := past_cells HC2.out hX1 bx1_1
               have bx2_2 := past_cells HC2.out hX1 bx2_1
               have bx3_2 := past_cells HC2.out hX1 bx3_1
               have bx4_2 := past_cells HC2.out hX1 bx4_1
               have ce0_2 := past_cells HC2.out hK1 ce0_1
               have ce1_2 := past_cells HC2.out hK1 ce1_1
               have ce2_2 := past_cells HC2.out hK1 ce2_1
               have ce3_2 := past_cells HC2.out hK1 ce3_1
               have ce4_2 := past_cells HC2.out hK1 ce4_1)))
        all_goals
          go_wp2_with fail
          go_roundw
          case rel =>
            have hfin : (y ++ ⟨#[100, 101, 102, 32]⟩ ++ ⟨rx.toArray⟩ ++ ⟨op.toArray⟩ ++ ⟨#[32]⟩ ++ ⟨x2.toArray⟩ ++ ⟨#[32]⟩ : ByteArray).data.toList = itsT (its.take (q + 1)) := by rw [HJ.out, ← HYY.out, HTX.out]; simp [ByteArray.data_append, dfT, HRX.out]
            refine ⟨q + 1, _, by go_num, rfl, by omega, ?_, hfin, (by refine hid ?_; repeat (with_reducible (first | exact HD2.out | apply Below.drew))), (by simpa [go_sem] using b4q_2), hH2⟩
            have h1 := congrArg List.length hfin
            rw [ba_len] at h1
            omega
          case measure => simp [intOf] <;> omega
      · have CW2 := hid cW2
        have HTX := hid htx
        have hsz : x2.length ≤ 1000000000 := by
          have h1 := congrArg List.length htx
          simp only [List.length_append, mnT] at h1
          omega
        clear cW2 htx
        go_upto_region 7 with fail
        have hbox : ∃ X, X = wr.alloc (.cells #[.int .i64 ck, .int .i64 cp, .string ⟨op.toArray⟩, .int .i64 cm, (.slice va vl vc)] 24) := ⟨_, rfl⟩
        obtain ⟨X, hX⟩ := hbox
        rw [← hX]
        have hBX : Below wr.heap.size wr X := by rw [hX]; exact (Below.refl _ _).alloc (Nat.le_refl _) _
        have HD0 : Hid (Below w.heap.size w X) := HBR.out.trans (hBX.mono (Nat.le_of_lt hHR.out))
        have hX0 : wr.heap.size < X.heap.size := by rw [hX]; simp
        have hH0 : w.heap.size < X.heap.size := Nat.lt_trans hHR.out hX0
        have bx0 : X.cell? ⟨wr.heap.size, 0, none⟩ = some (.int .i64 ck) := by rw [hX]; simp [go_sem]
        have bx1 : X.cell? ⟨wr.heap.size, 1, none⟩ = some (.int .i64 cp) := by rw [hX]; simp [go_sem]
        have bx2 : X.cell? ⟨wr.heap.size, 2, none⟩ = some (.string ⟨op.toArray⟩) := by rw [hX]; simp [go_sem]
        have bx3 : X.cell? ⟨wr.heap.size, 3, none⟩ = some (.int .i64 cm) := by rw [hX]; simp [go_sem]
        have bx4 : X.cell? ⟨wr.heap.size, 4, none⟩ = some ((.slice va vl vc)) := by rw [hX]; simp [go_sem]
        replace b4q := past_cells hBX hHR.out b4q
        clear hX hBX d0 d1 d2 d3 d4
        go_wp2_with fail
        refine (CW2.out _ HD0.out).mono ?_
        rintro en u1 ⟨rfl, HC1⟩
        have HD1 := hid (HD0.out.trans (HC1.out.mono (Nat.le_of_lt hH0)))
        have hH1 : w.heap.size < u1.heap.size := Nat.lt_of_lt_of_le hH0 HC1.out.size
        have b4q_1 := past_cells HC1.out hH0 b4q
        all_goals
          go_wp2_with fail
          go_roundw
          case rel =>
            have hfin : (y ++ ⟨#[109, 97, 105, 110, 32, 61, 32]⟩ ++ ⟨x2.toArray⟩ : ByteArray).data.toList = itsT (its.take (q + 1)) := by rw [HJ.out, ← HYY.out, HTX.out]; simp [ByteArray.data_append, mnT]
            refine ⟨q + 1, _, by go_num, rfl, by omega, ?_, hfin, (by refine hid ?_; repeat (with_reducible (first | exact HD1.out | apply Below.drew))), (by simpa [go_sem] using b4q_1), hH1⟩
            have h1 := congrArg List.length hfin
            rw [ba_len] at h1
            omega
          case measure => simp [intOf] <;> omega
    · have hqe : q = its.length := by have := HLL.out; omega
      go_wp2_with fail
      go_ret
      refine str_fin ?_ HBR.out
      rw [HYY.out, hqe, List.take_length]
end Go.Proofs.YtddnnlldkdljoaaGreatDoor
