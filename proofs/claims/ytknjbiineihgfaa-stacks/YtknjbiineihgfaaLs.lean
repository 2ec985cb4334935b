/-
  The loop over the pieces.
-/
import Derived.Test.YtknjbiineihgfaaLk
set_option linter.unusedVariables false
set_option linter.unusedSimpArgs false
namespace Go.Proofs.Ytknjbiineihgfaa
open Go.RowKit

def loopsOf : Code → List Code
  | .loop c => [c]
  | .seq a b => loopsOf a ++ loopsOf b
  | .block _ c => loopsOf c
  | .scope c => loopsOf c
  | .cond _ a b => loopsOf a ++ loopsOf b
  | _ => []
structure Fr3 (a : Act) (s r p q jj : Value) : Prop where
  sz : a.tmps.size = 354
  df : a.defers = []
  e3 : a.tmps[3]? = some s
  e4 : a.tmps[4]? = some r
  e5 : a.tmps[5]? = some p
  e6 : a.tmps[6]? = some q
  e40 : a.tmps[40]? = some jj
set_option maxRecDepth 100000 in
set_option maxHeartbeats 8000000 in
theorem roundC_exit {wr : World} {n pc i : Nat} {pa : Option Addr} {p : Value} (F : Nat → Value) (Q0 : Exit → Act → World → Prop) (J : Act → World → Prop) (h5 : p = .slice pa n pc) (hi : i = n) (hexit : ∀ a', Fr3 a' (F 3) (F 4) p (F 6) (.int .i64 (n : Nat)) → Q0 (.exit 5) a' wr) :
    Code.wp Try.prog ((Try.f3.body.map (fun c => (loopsOf c).getD 1 .skip)).getD .skip) (Exit.then J Q0) ⟨#[F 0, F 1, F 2, F 3, F 4, .slice pa n pc, F 6, F 7, F 8, F 9, F 10, F 11, F 12, F 13, F 14, F 15, F 16, F 17, F 18, F 19, F 20, F 21, F 22, F 23, F 24, F 25, F 26, F 27, F 28, F 29, F 30, F 31, F 32, F 33, F 34, F 35, F 36, F 37, F 38, F 39, .int .i64 (i : Nat), F 41, F 42, F 43, F 44, F 45, F 46, F 47, F 48, F 49, F 50, F 51, F 52, F 53, F 54, F 55, F 56, F 57, F 58, F 59, F 60, F 61, F 62, F 63, F 64, F 65, F 66, F 67, F 68, F 69, F 70, F 71, F 72, F 73, F 74, F 75, F 76, F 77, F 78, F 79, F 80, F 81, F 82, F 83, F 84, F 85, F 86, F 87, F 88, F 89, F 90, F 91, F 92, F 93, F 94, F 95, F 96, F 97, F 98, F 99, F 100, F 101, F 102, F 103, F 104, F 105, F 106, F 107, F 108, F 109, F 110, F 111, F 112, F 113, F 114, F 115, F 116, F 117, F 118, F 119, F 120, F 121, F 122, F 123, F 124, F 125, F 126, F 127, F 128, F 129, F 130, F 131, F 132, F 133, F 134, F 135, F 136, F 137, F 138, F 139, F 140, F 141, F 142, F 143, F 144, F 145, F 146, F 147, F 148, F 149, F 150, F 151, F 152, F 153, F 154, F 155, F 156, F 157, F 158, F 159, F 160, F 161, F 162, F 163, F 164, F 165, F 166, F 167, F 168, F 169, F 170, F 171, F 172, F 173, F 174, F 175, F 176, F 177, F 178, F 179, F 180, F 181, F 182, F 183, F 184, F 185, F 186, F 187, F 188, F 189, F 190, F 191, F 192, F 193, F 194, F 195, F 196, F 197, F 198, F 199, F 200, F 201, F 202, F 203, F 204, F 205, F 206, F 207, F 208, F 209, F 210, F 211, F 212, F 213, F 214, F 215, F 216, F 217, F 218, F 219, F 220, F 221, F 222, F 223, F 224, F 225, F 226, F 227, F 228, F 229, F 230, F 231, F 232, F 233, F 234, F 235, F 236, F 237, F 238, F 239, F 240, F 241, F 242, F 243, F 244, F 245, F 246, F 247, F 248, F 249, F 250, F 251, F 252, F 253, F 254, F 255, F 256, F 257, F 258, F 259, F 260, F 261, F 262, F 263, F 264, F 265, F 266, F 267, F 268, F 269, F 270, F 271, F 272, F 273, F 274, F 275, F 276, F 277, F 278, F 279, F 280, F 281, F 282, F 283, F 284, F 285, F 286, F 287, F 288, F 289, F 290, F 291, F 292, F 293, F 294, F 295, F 296, F 297, F 298, F 299, F 300, F 301, F 302, F 303, F 304, F 305, F 306, F 307, F 308, F 309, F 310, F 311, F 312, F 313, F 314, F 315, F 316, F 317, F 318, F 319, F 320, F 321, F 322, F 323, F 324, F 325, F 326, F 327, F 328, F 329, F 330, F 331, F 332, F 333, F 334, F 335, F 336, F 337, F 338, F 339, F 340, F 341, F 342, F 343, F 344, F 345, F 346, F 347, F 348, F 349, F 350, F 351, F 352, F 353], []⟩ wr := by
  subst hi
  have hlt : ¬ ((i : Int) < (i : Int)) := by omega
  conv => arg 2; whnf
  go_wp2
  refine ⟨rfl, rfl, rfl, rfl, ?_, ?_, ?_⟩
  all_goals first
    | rfl
    | exact congrArg some h5.symm

set_option maxRecDepth 100000 in
set_option maxHeartbeats 8000000 in
theorem roundC {w0 wr : World} {g : Gh} {m n pc qc gp gq i : Nat} {x : Pc} (F : Nat → Value) (Q0 : Exit → Act → World → Prop) (hQ0 : ∀ c a a' w, a.defers = a'.defers → Q0 (.panic c) a w → Q0 (.panic c) a' w) (hmem : Mem w0 g wr) (hpl : Pl g m) (hm : m ≤ 300) (hx : x ∈ g.P) (h5 : g.vp = .slice (some ⟨gp, 0, none⟩) n pc) (h6 : g.vq = .slice (some ⟨gq, 0, none⟩) n qc)
    (c1 : wr.cell? ⟨gp, i, none⟩ = some (.pointer (some ⟨x.pb, 0, none⟩))) (c2 : wr.cell? ⟨gq, i, none⟩ = some x.q) (hi : i < n) (hn : n < 1000000) :
    Code.wp Try.prog ((Try.f3.body.map (fun c => (loopsOf c).getD 1 .skip)).getD .skip) (Exit.then (fun a' w' => Fr3 a' (F 3) (F 4) g.vp g.vq (.int .i64 ((i : Int) + 1)) ∧ Mem w0 g w') Q0) ⟨#[F 0, F 1, F 2, F 3, F 4, .slice (some ⟨gp, 0, none⟩) n pc, .slice (some ⟨gq, 0, none⟩) n qc, F 7, F 8, F 9, F 10, F 11, F 12, F 13, F 14, F 15, F 16, F 17, F 18, F 19, F 20, F 21, F 22, F 23, F 24, F 25, F 26, F 27, F 28, F 29, F 30, F 31, F 32, F 33, F 34, F 35, F 36, F 37, F 38, F 39, .int .i64 (i : Nat), F 41, F 42, F 43, F 44, F 45, F 46, F 47, F 48, F 49, F 50, F 51, F 52, F 53, F 54, F 55, F 56, F 57, F 58, F 59, F 60, F 61, F 62, F 63, F 64, F 65, F 66, F 67, F 68, F 69, F 70, F 71, F 72, F 73, F 74, F 75, F 76, F 77, F 78, F 79, F 80, F 81, F 82, F 83, F 84, F 85, F 86, F 87, F 88, F 89, F 90, F 91, F 92, F 93, F 94, F 95, F 96, F 97, F 98, F 99, F 100, F 101, F 102, F 103, F 104, F 105, F 106, F 107, F 108, F 109, F 110, F 111, F 112, F 113, F 114, F 115, F 116, F 117, F 118, F 119, F 120, F 121, F 122, F 123, F 124, F 125, F 126, F 127, F 128, F 129, F 130, F 131, F 132, F 133, F 134, F 135, F 136, F 137, F 138, F 139, F 140, F 141, F 142, F 143, F 144, F 145, F 146, F 147, F 148, F 149, F 150, F 151, F 152, F 153, F 154, F 155, F 156, F 157, F 158, F 159, F 160, F 161, F 162, F 163, F 164, F 165, F 166, F 167, F 168, F 169, F 170, F 171, F 172, F 173, F 174, F 175, F 176, F 177, F 178, F 179, F 180, F 181, F 182, F 183, F 184, F 185, F 186, F 187, F 188, F 189, F 190, F 191, F 192, F 193, F 194, F 195, F 196, F 197, F 198, F 199, F 200, F 201, F 202, F 203, F 204, F 205, F 206, F 207, F 208, F 209, F 210, F 211, F 212, F 213, F 214, F 215, F 216, F 217, F 218, F 219, F 220, F 221, F 222, F 223, F 224, F 225, F 226, F 227, F 228, F 229, F 230, F 231, F 232, F 233, F 234, F 235, F 236, F 237, F 238, F 239, F 240, F 241, F 242, F 243, F 244, F 245, F 246, F 247, F 248, F 249, F 250, F 251, F 252, F 253, F 254, F 255, F 256, F 257, F 258, F 259, F 260, F 261, F 262, F 263, F 264, F 265, F 266, F 267, F 268, F 269, F 270, F 271, F 272, F 273, F 274, F 275, F 276, F 277, F 278, F 279, F 280, F 281, F 282, F 283, F 284, F 285, F 286, F 287, F 288, F 289, F 290, F 291, F 292, F 293, F 294, F 295, F 296, F 297, F 298, F 299, F 300, F 301, F 302, F 303, F 304, F 305, F 306, F 307, F 308, F 309, F 310, F 311, F 312, F 313, F 314, F 315, F 316, F 317, F 318, F 319, F 320, F 321, F 322, F 323, F 324, F 325, F 326, F 327, F 328, F 329, F 330, F 331, F 332, F 333, F 334, F 335, F 336, F 337, F 338, F 339, F 340, F 341, F 342, F 343, F 344, F 345, F 346, F 347, F 348, F 349, F 350, F 351, F 352, F 353], []⟩ wr := by
  have hmx : Try.prog.follows .mixedOrders = true := by kernel_rfl
  have hi0 : (0 : Int) ≤ (i : Int) := by omega
  have hi1 : (i : Int) < (n : Int) := by omega
  have hw : IntKind.i64.wrap ((i : Int) + 1) = (i : Int) + 1 := IntWalk.i64_in _ (by omega)
  have hmemd : Mem w0 g wr.drew := hmem.quiet (Ch.drew _ _)
  have hpiece := hmemd.piece hpl (by omega) hx
  have c1d : wr.drew.cell? ⟨gp, i, none⟩ = some (.pointer (some ⟨x.pb, 0, none⟩)) := c1
  have c2d : wr.drew.cell? ⟨gq, i, none⟩ = some x.q := c2
  replace h5 := hid h5
  replace h6 := hid h6
  conv => arg 2; whnf
  go_upto_region 68 with (fail)
  refine wp_region_held_drew (S := (fun w' => w'.cell? ⟨gp, i, none⟩ = some (.pointer (some ⟨x.pb, 0, none⟩)) ∧ w'.cell? ⟨gq, i, none⟩ = some x.q)) (by kernel_rfl) (by first | trivial | ((try dsimp only); go_keep)) (fun hHeld => ?_)
  refine wpAnyH_take (i := 0) (v := ?vvc501) rfl (by kernel_rfl) (by kernel_rfl) (by kernel_rfl) (fun c9 a9 w9 h9 => hQ0 c9 (a9.put _ _) a9 w9 (by rfl) h9) (Or.inl ⟨by rfl, ?yyc501⟩) (by assumption) ?rrc501
  case yyc501 => (intro w' hSw; (try dsimp only at hSw); go_simp; (try with_reducible rfl))
  try simp only [Act.put, List.setIfInBounds_toArray, List.set_cons_zero, List.set_cons_succ]
  refine wpAnyH_take (i := 1) (v := ?vvc502) rfl (by kernel_rfl) (by kernel_rfl) (by kernel_rfl) (fun c9 a9 w9 h9 => hQ0 c9 (a9.put _ _) a9 w9 (by rfl) h9) (Or.inl ⟨by rfl, ?yyc502⟩) (by assumption) ?rrc502
  case yyc502 => (intro w' hSw; (try dsimp only at hSw); go_simp; (try with_reducible rfl))
  try simp only [Act.put, List.setIfInBounds_toArray, List.set_cons_zero, List.set_cons_succ]
  refine wpAnyH_take (i := 2) (v := ?vvc503) rfl (by kernel_rfl) (by kernel_rfl) (by kernel_rfl) (fun c9 a9 w9 h9 => hQ0 c9 (a9.put _ _) a9 w9 (by rfl) h9) (Or.inl ⟨by rfl, ?yyc503⟩) (by assumption) ?rrc503
  case yyc503 => (intro w' hSw; (try dsimp only at hSw); go_simp; (try with_reducible rfl))
  try simp only [Act.put, List.setIfInBounds_toArray, List.set_cons_zero, List.set_cons_succ]
  refine wpAnyH_take (i := 3) (v := ?vvc504) rfl (by kernel_rfl) (by kernel_rfl) (by kernel_rfl) (fun c9 a9 w9 h9 => hQ0 c9 (a9.put _ _) a9 w9 (by rfl) h9) (Or.inl ⟨by rfl, ?yyc504⟩) (by assumption) ?rrc504
  case yyc504 => (intro w' hSw; (try dsimp only at hSw); go_simp; (try with_reducible rfl))
  try simp only [Act.put, List.setIfInBounds_toArray, List.set_cons_zero, List.set_cons_succ]
  refine wpAnyH_take (i := 4) (v := ?vvc505) rfl (by kernel_rfl) (by kernel_rfl) (by kernel_rfl) (fun c9 a9 w9 h9 => hQ0 c9 (a9.put _ _) a9 w9 (by rfl) h9) (Or.inl ⟨by rfl, ?yyc505⟩) (by assumption) ?rrc505
  case yyc505 => (intro w' hSw; (try dsimp only at hSw); go_simp; (try with_reducible rfl))
  try simp only [Act.put, List.setIfInBounds_toArray, List.set_cons_zero, List.set_cons_succ]
  refine wpAnyH_take (i := 5) (v := ?vvc506) rfl (by kernel_rfl) (by kernel_rfl) (by kernel_rfl) (fun c9 a9 w9 h9 => hQ0 c9 (a9.put _ _) a9 w9 (by rfl) h9) (Or.inl ⟨by rfl, ?yyc506⟩) (by assumption) ?rrc506
  case yyc506 => (intro w' hSw; (try dsimp only at hSw); go_simp; (try with_reducible rfl))
  try simp only [Act.put, List.setIfInBounds_toArray, List.set_cons_zero, List.set_cons_succ]
  refine wpAnyH_take (i := 6) (v := ?vvc507) rfl (by kernel_rfl) (by kernel_rfl) (by kernel_rfl) (fun c9 a9 w9 h9 => hQ0 c9 (a9.put _ _) a9 w9 (by rfl) h9) (Or.inl ⟨by rfl, ?yyc507⟩) (by assumption) ?rrc507
  case yyc507 => (intro w' hSw; (try dsimp only at hSw); go_simp; (try with_reducible rfl))
  try simp only [Act.put, List.setIfInBounds_toArray, List.set_cons_zero, List.set_cons_succ]
  refine wpAnyH_take (i := 7) (v := ?vvc508) rfl (by kernel_rfl) (by kernel_rfl) (by kernel_rfl) (fun c9 a9 w9 h9 => hQ0 c9 (a9.put _ _) a9 w9 (by rfl) h9) (Or.inl ⟨by rfl, ?yyc508⟩) (by assumption) ?rrc508
  case yyc508 => (intro w' hSw; (try dsimp only at hSw); go_simp; (try with_reducible rfl))
  try simp only [Act.put, List.setIfInBounds_toArray, List.set_cons_zero, List.set_cons_succ]
  refine wpAnyH_ready (rs := [8]) (by kernel_rfl) (by simp) (AllReadyH.cons rfl (fun K hK => ?_) AllReadyH.nil)
  go_simp
  refine hpiece.mono ?_
  clear hpiece
  rintro e w9 ⟨rfl, hc9⟩
  have k1 := (hc9.cell (p := ⟨gp, i, none⟩) (block_lt_of_cell c1d) (fun h => h)).trans c1d
  have k2 := (hc9.cell (p := ⟨gq, i, none⟩) (block_lt_of_cell c2d) (fun h => h)).trans c2d
  dsimp only
  clear hHeld
  refine hK.out _ _ ?hs (fun hHeld => ?_)
  case hs => (first | trivial | ((try dsimp only); go_keep) | ((try dsimp only); simp [*, World.cell?_alloc_some, World.cell?_setCell_far, World.cell?_setCell_other]))
  clear hK K
  try simp only [Act.put, List.setIfInBounds_toArray, List.set_cons_zero, List.set_cons_succ]
  refine wpAnyH_take (i := 9) (v := ?vvc509) rfl (by kernel_rfl) (by kernel_rfl) (by kernel_rfl) (fun c9 a9 w9 h9 => hQ0 c9 (a9.put _ _) a9 w9 (by rfl) h9) (Or.inl ⟨by rfl, ?yyc509⟩) (by assumption) ?rrc509
  case yyc509 => (intro w' hSw; (try dsimp only at hSw); go_simp; (try with_reducible rfl))
  try simp only [Act.put, List.setIfInBounds_toArray, List.set_cons_zero, List.set_cons_succ]
  refine wpAnyH_done (by kernel_rfl) ?_ _
  clear hHeld
  go_wp2
  replace h5 := h5.out
  replace h6 := h6.out
  refine ⟨?_, hmemd.quiet hc9⟩
  refine ⟨rfl, rfl, rfl, rfl, ?_, ?_, ?_⟩
  all_goals first
    | rfl
    | exact congrArg some h5.symm
    | exact congrArg some h6.symm

theorem loopC {w0 W : World} {g : Gh} {m : Nat} {s r : Value} (Q0 : Exit → Act → World → Prop) (hmem : Mem w0 g W) (hpl : Pl g m) (hm : m ≤ 300) (a0 : Act) (hfr : Fr3 a0 s r g.vp g.vq (.int .i64 0)) (hQ0 : ∀ c a a' w, a.defers = a'.defers → Q0 (.panic c) a w → Q0 (.panic c) a' w)
    (hexit : ∀ a' w', Fr3 a' s r g.vp g.vq (.int .i64 (g.P.length : Nat)) → Mem w0 g w' → Q0 (.exit 5) a' w') : Code.wp Try.prog (Code.loop ((Try.f3.body.map (fun c => (loopsOf c).getD 1 .skip)).getD .skip)) Q0 a0 W := by
  have hpk := hpl.k
  refine wp_loop (fun a w => ∃ i : Nat, i ≤ g.P.length ∧ Fr3 a s r g.vp g.vq (.int .i64 (i : Nat)) ∧ Mem w0 g w) (fun a _ => g.P.length - (intOf (a.tmps.getD 40 undef)).toNat) ⟨0, Nat.zero_le _, hfr, hmem⟩ ?_
  rintro a w ⟨i, hi, hf, hw⟩
  have hmu : (intOf (a.tmps.getD 40 undef)).toNat = i := by simp [Array.getD_eq_getD_getElem?, hf.e40, intOf]
  rw [hmu]
  clear hmu
  have hrp := hw.rp
  have hrq := hw.rq
  obtain ⟨pa, pc, h5, hpa, _⟩ := row_slice hrp
  obtain ⟨qa, qc, h6, hqa, _⟩ := row_slice hrq
  obtain ⟨F, rfl, hF⟩ := act_open hf.sz hf.df
  have f3 := hF 3 _ hf.e3
  have f4 := hF 4 _ hf.e4
  have f5 : F 5 = .slice pa g.P.length pc := (hF 5 _ hf.e5).trans h5
  have f6 := hF 6 _ hf.e6
  have f40 := hF 40 _ hf.e40
  clear hF hf
  by_cases e : i = g.P.length
  · rw [f5, f40]
    refine roundC_exit F Q0 _ h5 e (fun a' h => hexit a' w ?_ hw)
    rw [f3, f4, f6] at h
    exact h
  · have hlt : i < g.P.length := by omega
    obtain ⟨x, hx⟩ : ∃ x, g.P[i]? = some x := ⟨g.P[i], by simp⟩
    obtain ⟨gp, rfl⟩ : ∃ gp, pa = some ⟨gp, 0, none⟩ := by rcases hpa with h | h; omega; exact h
    obtain ⟨gq, rfl⟩ : ∃ gq, qa = some ⟨gq, 0, none⟩ := by rcases hqa with h | h; omega; exact h
    rw [h6] at f6
    rw [f5, f6, f40]
    have hrp2 := hrp
    have hrq2 := hrq
    rw [h5] at hrp2
    rw [h6] at hrq2
    have c1 : w.cell? ⟨gp, i, none⟩ = some (.pointer (some ⟨x.pb, 0, none⟩)) := row_cell hrp2 i _ (by rw [List.getElem?_map, hx]; rfl)
    have c2 : w.cell? ⟨gq, i, none⟩ = some x.q := row_cell hrq2 i _ (by rw [List.getElem?_map, hx]; rfl)
    refine wp_mono (roundC F Q0 hQ0 hw hpl hm (List.mem_of_getElem? hx) h5 h6 c1 c2 hlt (by omega)) ?_
    intro e a' w' h
    cases e <;> first | exact h | skip
    obtain ⟨h1, h2⟩ := h
    rw [f3, f4] at h1
    refine ⟨⟨i + 1, by omega, by simpa using h1, h2⟩, ?_⟩
    simp only [Array.getD_eq_getD_getElem?, h1.e40, Option.getD_some, intOf]
    omega
end Go.Proofs.Ytknjbiineihgfaa
