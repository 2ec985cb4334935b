/-
  A round of the law: Collect.
-/
import Derived.Test.YtidgppghakmkaaaKd
set_option linter.unusedVariables false
set_option linter.unusedSimpArgs false
namespace Go.Proofs.Ytidgppghakmkaaa
open Go.RowKit Go.Shelf Hp Go.Sort
attribute [local simp] wide_fn

set_option maxRecDepth 100000 in
set_option maxHeartbeats 16000000 in
theorem case6 {w wr : World} {hb g N rb ca cb lb loff ln lc i : Nat} {K R A B C : Int} {T : List Th} {f : Nat → PC} {bs : Nat → Nat} {lv : Value} {r : Nat → Cl} (F : Nat → Value) (Q0 : Exit → Act → World → Prop) (hLS : LS w wr hb g N rb ca cb T f bs lv r) (h1 : i < ln) (h2 : i < 300)
    (k0 : wr.cell? ⟨lb, loff + i * 5, none⟩ = some (.int .i64 K)) (k1 : wr.cell? ⟨lb, loff + i * 5 + 1, none⟩ = some (.int .i64 R)) (k2 : wr.cell? ⟨lb, loff + i * 5 + 2, none⟩ = some (.int .i64 A)) (k3 : wr.cell? ⟨lb, loff + i * 5 + 3, none⟩ = some (.int .i64 B)) (k4 : wr.cell? ⟨lb, loff + i * 5 + 4, none⟩ = some (.int .i64 C)) (hK : modI K 8 = 6) :
    Code.wp Try.prog ((Try.f3.body.bind firstLoop).getD .skip) (Exit.then (fun a' w' => WI w hb g N rb ca cb (some ⟨lb, loff, none⟩) ln lc a' w' ∧ Wmu a' w' < 300 - i) Q0) ⟨#[F 0, .slice (some ⟨lb, loff, none⟩) ln lc, F 2, F 3, F 4, .pointer (some ⟨hb, 0, none⟩), F 6, .pointer (some ⟨rb, 0, none⟩), .slice (some ⟨ca, 0, none⟩) 6 6, .slice (some ⟨cb, 0, none⟩) 6 6, .int .i64 (i : Nat), F 11, F 12, F 13, F 14, F 15, F 16, F 17, F 18, F 19, F 20, F 21, F 22, F 23, F 24, F 25, F 26, F 27, F 28, F 29, F 30, F 31, F 32, F 33, F 34, F 35, F 36, F 37, F 38, F 39, F 40, F 41, F 42, F 43, F 44, F 45, F 46, F 47, F 48, F 49, F 50, F 51, F 52, F 53, F 54, F 55, F 56, F 57, F 58, F 59, F 60, F 61, F 62, F 63, F 64, F 65, F 66, F 67, F 68, F 69, F 70, F 71, F 72, F 73, F 74, F 75, F 76, F 77, F 78, F 79, F 80, F 81, F 82, F 83, F 84, F 85, F 86, F 87, F 88, F 89, F 90, F 91, F 92, F 93, F 94, F 95, F 96, F 97, F 98, F 99, F 100, F 101, F 102, F 103, F 104, F 105, F 106, F 107, F 108, F 109, F 110, F 111, F 112, F 113, F 114, F 115, F 116, F 117, F 118, F 119, F 120, F 121, F 122, F 123, F 124, F 125, F 126, F 127, F 128, F 129, F 130, F 131, F 132, F 133, F 134, F 135, F 136, F 137, F 138, F 139, F 140, F 141, F 142, F 143, F 144, F 145, F 146, F 147, F 148, F 149, F 150, F 151, F 152, F 153, F 154, F 155, F 156, F 157, F 158, F 159, F 160, F 161, F 162, F 163, F 164, F 165, F 166, F 167, F 168, F 169, F 170, F 171, F 172, F 173, F 174, F 175, F 176, F 177, F 178, F 179, F 180, F 181, F 182, F 183, F 184, F 185, F 186, F 187, F 188, F 189, F 190, F 191, F 192, F 193, F 194, F 195, F 196, F 197, F 198, F 199, F 200, F 201, F 202, F 203, F 204, F 205, F 206, F 207, F 208, F 209, F 210, F 211, F 212, F 213, F 214, F 215, F 216, F 217, F 218, F 219, F 220, F 221, F 222, F 223, F 224, F 225, F 226, F 227, F 228, F 229, F 230, F 231, F 232, F 233, F 234, F 235, F 236, F 237, F 238, F 239, F 240, F 241, F 242, F 243, F 244, F 245, F 246, F 247, F 248, F 249, F 250, F 251, F 252, F 253, F 254, F 255, F 256, F 257, F 258, F 259, F 260, F 261, F 262, F 263, F 264, F 265, F 266, F 267, F 268, F 269, F 270, F 271, F 272, F 273, F 274, F 275, F 276, F 277, F 278, F 279, F 280, F 281, F 282, F 283, F 284, F 285, F 286, F 287, F 288, F 289, F 290, F 291, F 292, F 293, F 294, F 295, F 296], []⟩ wr := by
  have elI : (i : Int) < (ln : Int) := by omega
  have e3I : (i : Int) < 300 := by omega
  have hwi : IntKind.i64.wrap ((i : Int) + 1) = (i : Int) + 1 := IntWalk.i64_in _ (by omega)
  obtain ⟨X, hX⟩ : ∃ X, wr.alloc (.cells #[.int .i64 K, .int .i64 R, .int .i64 A, .int .i64 B, .int .i64 C] 33) = X := ⟨_, rfl⟩
  have hcX : Ch (fun _ => False) wr X := by rw [← hX]; exact (Ch.refl _ wr).al _
  have hBX : X.heap[wr.heap.size]? = some (.cells #[.int .i64 K, .int .i64 R, .int .i64 A, .int .i64 B, .int .i64 C] 33 (0, 0)) := by rw [← hX]; exact World.alloc_heap_new wr _
  have hSX := hLS.quiet hcX
  obtain ⟨ri, hri, hr6⟩ := mod_nat R 6 (by omega)
  obtain ⟨ki, hki, hk6⟩ := mod_nat A 6 (by omega)
  have hri' : modI R 6 = (ri : Int) := hri
  have hki' : modI A 6 = (ki : Int) := hki
  clear hri hki
  have hriI : (ri : Int) < 6 := by omega
  have hkiI : (ki : Int) < 6 := by omega
  obtain ⟨x0, x1, x2, x3, x4⟩ := op_cells hBX
  have hwx : wr.heap.size < X.heap.size := (Array.getElem?_eq_some_iff.1 hBX).1
  have zr := (Array.getElem?_eq_some_iff.1 hLS.rc).1
  have za := (Array.getElem?_eq_some_iff.1 hLS.ra).1
  replace hBX := hid hBX
  replace hSX := hid hSX
  clear hLS hcX
  obtain ⟨n1, n2, n3, n4, n5⟩ := hSX.out.ne
  have hgl : g < X.heap.size := (Array.getElem?_eq_some_iff.1 hSX.out.hm.row).1
  have hhl : hb < X.heap.size := (Array.getElem?_eq_some_iff.1 hSX.out.hm.hd).1
  have HRg := ranged_any X ca
  conv => arg 2; whnf
  go_wp2_with (first
    | (go_at_call 5; refine (mod_any _ _ _ (by decide) (by decide)).mono ?_; rintro e9 w9 ⟨rfl, hw9⟩; obtain rfl := hw9.symm; (first | rw [hri'] | rw [hki'] | rw [hK]); dsimp only)
    | (go_at_call 7; refine HRg.mono ?_; clear HRg; rintro e9 w1 ⟨rfl, hlx, hc1⟩; have hS1 := hSX.out.quiet hc1; have HC := Collect_any w1 hb g N T f hS1.hm hS1.ly hS1.wf X.heap.size ca r hS1.ra hlx hS1.rv n2 n1 (by omega) (by omega) (by omega); replace hS1 := hid hS1; replace hc1 := hid hc1)
    | (go_at_call 13; refine HC.mono ?_; clear HC; rintro e9 w2 ⟨rfl, ⟨f2, H2, hL2⟩, ha2, hc2⟩; have hd2 := hS1.out.docs hc2; have HP := places_any w2 cb; replace hc2 := hid hc2; replace H2 := hid H2; replace hL2 := hid hL2; replace ha2 := hid ha2; replace hd2 := hid hd2)
    | (go_at_call 9; refine HP.mono ?_; clear HP; rintro e9 w3 ⟨pb, pc, rfl, hP3, hpn, hc3⟩; have HD := DCollect_any w3 rb N T bs lv (hd2.out.1.quiet hc3) hS1.out.wf pb pc cb r hP3 ((hc3.same cb (Array.getElem?_eq_some_iff.1 hd2.out.2.1).1 (fun h => h)).trans hd2.out.2.1) hS1.out.rv (fun h => (hS1.out.no cb h).2.2.2 rfl) (fun h => by have := hd2.out.1.lt h; omega) (by have := (Array.getElem?_eq_some_iff.1 hd2.out.2.1).1; omega); replace hc3 := hid hc3; clear hP3)
    | (go_at_call 14; refine HD.mono ?_; clear HD; rintro e9 w4 ⟨rfl, ⟨bs4, lv4, D4, ho4⟩, hr4, hc4⟩; have hS4 := hS1.out.both hc2.out H2.out hL2.out ha2.out ((hc3.out.mono (fun _ h => h.elim)).trans hc4 (fun _ h => .inl h)) D4 (fun k hk => (ho4 k hk).imp id (fun h => Nat.le_trans hc3.out.size h)) hr4 (TOk_coll hS1.out.ok _) (WF_coll (mR_kept hS1.out.wf r)) (RV_coll hS1.out.rv); have HA := alike_of hS4; clear hS4 D4 ho4 hr4 hc4)
    | (go_at_call 15; refine HA.mono ?_; clear HA; rintro e9 w9 ⟨rfl, hS9⟩))
  exact round_end ⟨_, _, _, _, _, hS9⟩ h2 h1 ⟨rfl, rfl, rfl, rfl, rfl, rfl, rfl, rfl⟩
end Go.Proofs.Ytidgppghakmkaaa
