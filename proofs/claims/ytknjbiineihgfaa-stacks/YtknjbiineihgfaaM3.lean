/-
  A round of the law: Open.
-/
import Derived.Test.YtknjbiineihgfaaLk
set_option linter.unusedVariables false
set_option linter.unusedSimpArgs false
namespace Go.Proofs.Ytknjbiineihgfaa
open Go.RowKit
set_option maxRecDepth 100000 in
set_option maxHeartbeats 8000000 in
theorem case3 {w0 wr : World} {lg lk ln lc : Nat} {g : Gh} {m t : Nat} {K N : Int} {j : Bool} (F : Nat → Value) (Q0 : Exit → Act → World → Prop) (hmem : Mem w0 g wr) (hpl : Pl g m) (h2 : Two1 w0 wr g m t j) (hm1 : m < 300) (hm2 : m < ln) (ht : t < 2) (hck : wr.cell? ⟨lg, lk + m * 2, none⟩ = some (.int .i64 K)) (hcn : wr.cell? ⟨lg, lk + m * 2 + 1, none⟩ = some (.int .i64 N)) (hK : modI K 9 = 3) :
    Code.wp Try.prog ((Try.f3.body.bind firstLoop).getD .skip) (Exit.then (fun a' w' => WI w0 (some ⟨lg, lk, none⟩) ln lc a' w' ∧ Wmu a' w' < 300 - m) Q0) ⟨#[.slice (some ⟨lg, lk, none⟩) ln lc, F 1, F 2, .slice (some ⟨g.bs, 0, none⟩) 2 2, .slice (some ⟨g.br, 0, none⟩) 2 2, g.vp, g.vq, .int .i64 (t : Nat), .int .i64 (m : Nat), F 9, F 10, F 11, F 12, F 13, F 14, F 15, F 16, F 17, F 18, F 19, F 20, F 21, F 22, F 23, F 24, F 25, F 26, F 27, F 28, F 29, F 30, F 31, F 32, F 33, F 34, F 35, F 36, F 37, F 38, F 39, F 40, F 41, F 42, F 43, F 44, F 45, F 46, F 47, F 48, F 49, F 50, F 51, F 52, F 53, F 54, F 55, F 56, F 57, F 58, F 59, F 60, F 61, F 62, F 63, F 64, F 65, F 66, F 67, F 68, F 69, F 70, F 71, F 72, F 73, F 74, F 75, F 76, F 77, F 78, F 79, F 80, F 81, F 82, F 83, F 84, F 85, F 86, F 87, F 88, F 89, F 90, F 91, F 92, F 93, F 94, F 95, F 96, F 97, F 98, F 99, F 100, F 101, F 102, F 103, F 104, F 105, F 106, F 107, F 108, F 109, F 110, F 111, F 112, F 113, F 114, F 115, F 116, F 117, F 118, F 119, F 120, F 121, F 122, F 123, F 124, F 125, F 126, F 127, F 128, F 129, F 130, F 131, F 132, F 133, F 134, F 135, F 136, F 137, F 138, F 139, F 140, F 141, F 142, F 143, F 144, F 145, F 146, F 147, F 148, F 149, F 150, F 151, F 152, F 153, F 154, F 155, F 156, F 157, F 158, F 159, F 160, F 161, F 162, F 163, F 164, F 165, F 166, F 167, F 168, F 169, F 170, F 171, F 172, F 173, F 174, F 175, F 176, F 177, F 178, F 179, F 180, F 181, F 182, F 183, F 184, F 185, F 186, F 187, F 188, F 189, F 190, F 191, F 192, F 193, F 194, F 195, F 196, F 197, F 198, F 199, F 200, F 201, F 202, F 203, F 204, F 205, F 206, F 207, F 208, F 209, F 210, F 211, F 212, F 213, F 214, F 215, F 216, F 217, F 218, F 219, F 220, F 221, F 222, F 223, F 224, F 225, F 226, F 227, F 228, F 229, F 230, F 231, F 232, F 233, F 234, F 235, F 236, F 237, F 238, F 239, F 240, F 241, F 242, F 243, F 244, F 245, F 246, F 247, F 248, F 249, F 250, F 251, F 252, F 253, F 254, F 255, F 256, F 257, F 258, F 259, F 260, F 261, F 262, F 263, F 264, F 265, F 266, F 267, F 268, F 269, F 270, F 271, F 272, F 273, F 274, F 275, F 276, F 277, F 278, F 279, F 280, F 281, F 282, F 283, F 284, F 285, F 286, F 287, F 288, F 289, F 290, F 291, F 292, F 293, F 294, F 295, F 296, F 297, F 298, F 299, F 300, F 301, F 302, F 303, F 304, F 305, F 306, F 307, F 308, F 309, F 310, F 311, F 312, F 313, F 314, F 315, F 316, F 317, F 318, F 319, F 320, F 321, F 322, F 323, F 324, F 325, F 326, F 327, F 328, F 329, F 330, F 331, F 332, F 333, F 334, F 335, F 336, F 337, F 338, F 339, F 340, F 341, F 342, F 343, F 344, F 345, F 346, F 347, F 348, F 349, F 350, F 351, F 352, F 353], []⟩ wr := by
  obtain ⟨hcs, hcr, hSn, hSc, hLl, hal, hLn, hrl⟩ := h2
  have hT := hpl.tm j
  have hi0 : (0 : Int) ≤ (m : Int) := by omega
  have hi1 : (m : Int) < (ln : Int) := by omega
  have hi2 : (m : Int) < 300 := by omega
  have hj0 : (0 : Int) ≤ (t : Int) := by omega
  have hj1 : (t : Int) < 2 := by omega
  have hw : IntKind.i64.wrap ((m : Int) + 1) = (m : Int) + 1 := IntWalk.i64_in _ (by omega)
  conv => arg 2; whnf
  have hmodK := fun w => mod_any w K 9 (by decide) (by decide)
  have hmodN := fun w => mod_any w N 1000 (by decide) (by decide)
  obtain ⟨n', hN⟩ : ∃ n', modI N 1000 = n' := ⟨_, rfl⟩
  go_wp2_with (first
    | (go_at_call 6; refine (hmodK _).mono ?_; clear hmodK; rintro e w9 ⟨rfl, rfl⟩; rw [hK]; dsimp only)
    | (go_at_call 6; refine (hmodN _).mono ?_; clear hmodN; rintro e w9 ⟨rfl, rfl⟩; rw [hN]; dsimp only)
    | (go_at_call 13; refine (hmem.opened (j := j) n' (by omega)).mono ?_; clear hmem; rintro e w1 ⟨rfl, D1, v1, S1, z1, hmem1, hT1⟩; dsimp only)
    | (go_at_call 14; refine (hmem1.ropened (j := j) n' (show (g.L j).length < 100000000 by omega)).mono ?_; clear hmem1; rintro e w2 ⟨rfl, v2, L2, hmem2, hT2⟩; have hpl2 := hpl.set (j := j) (D := D1) (v := v1) (rv := v2) hT1 (hT2.trans (congrArg (· ++ [_]) (hpl.l j))) ((hpl.s j).snoc rfl); dsimp only)
    | (go_at_call 25; refine (hmem2.alike hpl2 (by omega) j).mono ?_; rintro e w3 ⟨rfl, hc3⟩; dsimp only))
  exact round_end (hmem2.quiet hc3) hpl2 hm1 hm2 ht ⟨rfl, rfl, rfl, rfl, rfl, rfl, rfl, rfl, rfl⟩
end Go.Proofs.Ytknjbiineihgfaa
