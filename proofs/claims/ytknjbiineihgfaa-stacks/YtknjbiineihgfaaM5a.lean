/-
  A round of the law: Cut, nothing is wanted.
-/
import Derived.Test.YtknjbiineihgfaaLq
set_option linter.unusedVariables false
set_option linter.unusedSimpArgs false
namespace Go.Proofs.Ytknjbiineihgfaa
open Go.RowKit
set_option maxRecDepth 100000 in
set_option maxHeartbeats 8000000 in
theorem case5no {w0 wr : World} {lg lk ln lc : Nat} {g : Gh} {m t : Nat} {K N : Int} {j : Bool} (F : Nat → Value) (Q0 : Exit → Act → World → Prop) (hQ0 : ∀ c a a' w, a.defers = a'.defers → Q0 (.panic c) a w → Q0 (.panic c) a' w) (hmem : Mem w0 g wr) (hpl : Pl g m) (h2 : Two1 w0 wr g m t j) (hm1 : m < 300) (hm2 : m < ln) (ht : t < 2) (hck : wr.cell? ⟨lg, lk + m * 2, none⟩ = some (.int .i64 K)) (hcn : wr.cell? ⟨lg, lk + m * 2 + 1, none⟩ = some (.int .i64 N)) (hK : modI K 9 = 5) {T : List Sg} {k : Int} (hT0 : (g.S j ++ [g.z j]).map Sn.s = T) (hk3 : modI N 3 = k) (hfn : (findN k T (T.length - 1)).1 = 0) :
    Code.wp Try.prog ((Try.f3.body.bind firstLoop).getD .skip) (Exit.then (fun a' w' => WI w0 (some ⟨lg, lk, none⟩) ln lc a' w' ∧ Wmu a' w' < 300 - m) Q0) ⟨#[.slice (some ⟨lg, lk, none⟩) ln lc, F 1, F 2, .slice (some ⟨g.bs, 0, none⟩) 2 2, .slice (some ⟨g.br, 0, none⟩) 2 2, g.vp, g.vq, .int .i64 (t : Nat), .int .i64 (m : Nat), F 9, F 10, F 11, F 12, F 13, F 14, F 15, F 16, F 17, F 18, F 19, F 20, F 21, F 22, F 23, F 24, F 25, F 26, F 27, F 28, F 29, F 30, F 31, F 32, F 33, F 34, F 35, F 36, F 37, F 38, F 39, F 40, F 41, F 42, F 43, F 44, F 45, F 46, F 47, F 48, F 49, F 50, F 51, F 52, F 53, F 54, F 55, F 56, F 57, F 58, F 59, F 60, F 61, F 62, F 63, F 64, F 65, F 66, F 67, F 68, F 69, F 70, F 71, F 72, F 73, F 74, F 75, F 76, F 77, F 78, F 79, F 80, F 81, F 82, F 83, F 84, F 85, F 86, F 87, F 88, F 89, F 90, F 91, F 92, F 93, F 94, F 95, F 96, F 97, F 98, F 99, F 100, F 101, F 102, F 103, F 104, F 105, F 106, F 107, F 108, F 109, F 110, F 111, F 112, F 113, F 114, F 115, F 116, F 117, F 118, F 119, F 120, F 121, F 122, F 123, F 124, F 125, F 126, F 127, F 128, F 129, F 130, F 131, F 132, F 133, F 134, F 135, F 136, F 137, F 138, F 139, F 140, F 141, F 142, F 143, F 144, F 145, F 146, F 147, F 148, F 149, F 150, F 151, F 152, F 153, F 154, F 155, F 156, F 157, F 158, F 159, F 160, F 161, F 162, F 163, F 164, F 165, F 166, F 167, F 168, F 169, F 170, F 171, F 172, F 173, F 174, F 175, F 176, F 177, F 178, F 179, F 180, F 181, F 182, F 183, F 184, F 185, F 186, F 187, F 188, F 189, F 190, F 191, F 192, F 193, F 194, F 195, F 196, F 197, F 198, F 199, F 200, F 201, F 202, F 203, F 204, F 205, F 206, F 207, F 208, F 209, F 210, F 211, F 212, F 213, F 214, F 215, F 216, F 217, F 218, F 219, F 220, F 221, F 222, F 223, F 224, F 225, F 226, F 227, F 228, F 229, F 230, F 231, F 232, F 233, F 234, F 235, F 236, F 237, F 238, F 239, F 240, F 241, F 242, F 243, F 244, F 245, F 246, F 247, F 248, F 249, F 250, F 251, F 252, F 253, F 254, F 255, F 256, F 257, F 258, F 259, F 260, F 261, F 262, F 263, F 264, F 265, F 266, F 267, F 268, F 269, F 270, F 271, F 272, F 273, F 274, F 275, F 276, F 277, F 278, F 279, F 280, F 281, F 282, F 283, F 284, F 285, F 286, F 287, F 288, F 289, F 290, F 291, F 292, F 293, F 294, F 295, F 296, F 297, F 298, F 299, F 300, F 301, F 302, F 303, F 304, F 305, F 306, F 307, F 308, F 309, F 310, F 311, F 312, F 313, F 314, F 315, F 316, F 317, F 318, F 319, F 320, F 321, F 322, F 323, F 324, F 325, F 326, F 327, F 328, F 329, F 330, F 331, F 332, F 333, F 334, F 335, F 336, F 337, F 338, F 339, F 340, F 341, F 342, F 343, F 344, F 345, F 346, F 347, F 348, F 349, F 350, F 351, F 352, F 353], []⟩ wr := by
  obtain ⟨hcs, hcr, hSn, hSc, hLl, hal, hLn, hrl⟩ := h2
  have hT := hpl.tm j
  have hi0 : (0 : Int) ≤ (m : Int) := by omega
  have hi1 : (m : Int) < (ln : Int) := by omega
  have hi2 : (m : Int) < 300 := by omega
  have hj0 : (0 : Int) ≤ (t : Int) := by omega
  have hj1 : (t : Int) < 2 := by omega
  have hw : IntKind.i64.wrap ((m : Int) + 1) = (m : Int) + 1 := IntWalk.i64_in _ (by omega)
  conv => arg 2; whnf
  have hmodK := fun w => mod_any w K 9 (by decide) (by decide)
  have hmod3 := fun w => mod_any w N 3 (by decide) (by decide)
  have hmod6 := fun w => mod_any w N 6 (by decide) (by decide)
  obtain ⟨k6, hk6⟩ : ∃ k6, modI N 6 = k6 := ⟨_, rfl⟩
  have hs := hpl.s j
  rw [hT0] at hs
  have hTn := hs.n
  have hTc := hs.c
  have hTl : T.length = (g.S j).length + 1 := by rw [← hT0]; simp
  have hLT : (g.L j).map Rn.s = T := (hpl.l j).trans hT0
  obtain ⟨a1, r1, hTa, ha1⟩ := hs.f
  obtain ⟨⟨rr, hrr, hrr0⟩, hno⟩ := ask_tags k T a1 (by rw [hTa]; rfl) ha1 (T.length - 1) (by omega)
  rw [show T.length - 1 + 1 = T.length by omega, List.take_length] at hrr
  obtain ⟨fa, hfa⟩ : ∃ fa, (findN k T (T.length - 1)).2 = fa := ⟨_, rfl⟩
  rw [hfa] at hrr hno
  have htg : (flatT 0 T).length < 1000000000 := by have := flatT_len T 0; omega
  have hpre : ∃ r, ((flatT 0 T).map (fun x => x.2)).reverse = fa ++ r := ⟨rr, hrr⟩
  obtain ⟨gr, rcap, hrv, hrcap⟩ := (hmem.rt j).rs.form (by omega)
  have hrl2 : ∀ r ∈ g.L j, r.s.l.length < 1000000000 := fun r hr => by have := hrl r hr; omega
  replace hT0 := hid hT0
  replace hLT := hid hLT
  replace hTa := hid hTa
  replace hrv := hid hrv
  replace hfn := hid hfn
  replace hfa := hid hfa
  replace hTl := hid hTl
  replace hLn := hid hLn
  replace hLl := hid hLl
  replace hrr := hid hrr
  replace hrr0 := hid hrr0
  go_upto_region 40 with (first
    | (go_at_call 6; refine (hmodK _).mono ?_; clear hmodK; rintro e wr ⟨rfl, rfl⟩; rw [hK]; dsimp only)
    | (go_at_call 6; refine (hmod3 _).mono ?_; clear hmod3; rintro e wr ⟨rfl, rfl⟩; rw [hk3]; dsimp only)
    | (go_at_call 6; refine (hmod6 _).mono ?_; clear hmod6; rintro e wr ⟨rfl, rfl⟩; rw [hk6]; dsimp only))
  obtain ⟨W, hW⟩ : ∃ W, ((wr.alloc (.cells #[.int .i64 k] 3)).alloc (.cells #[.slice none 0 0] 39)) = W := ⟨_, rfl⟩
  obtain ⟨hcW, hQc, hAsk⟩ := new_two wr k W hW
  have hsz : W.heap.size = wr.heap.size + 2 := by rw [← hW]; simp
  rw [hW]
  clear hW
  have hPown : ∀ i, own (wr.heap.size + 1) (.slice none 0 0) i → i = wr.heap.size + 1 := fun i hi => by
    rcases hi with e | e
    · exact e
    · cases e
  have hlt0 := hmem.lt
  have hw0 := hmem.ch.size
  have hmemW := hmem.quiet hcW
  have hcut := hmemW.cut (j := j) hT0.out (by omega) (by omega) (decide (k6 < 3)) hAsk hQc (fun h => by have := hPown _ h; omega) (fun ρ i hi h => by have := hPown i hi; have := hlt0 ρ i h; omega) (fun i hi => by have := hPown i hi; omega)
  rw [hfa.out] at hcut
  obtain ⟨deep, hdeep⟩ : ∃ deep, decide (k6 < 3) = deep := ⟨_, rfl⟩
  rw [hdeep] at hcut ⊢
  have hstl : ∀ i, own (g.b j) (g.v j) i → i < wr.heap.size := fun i h => hlt0 (.st j) i h
  have hrtl : ∀ i, rtown (g.c j) (g.rv j) (g.L j) i → i < wr.heap.size := fun i h => hlt0 (.rt j) i h
  have hL6 : (g.L j).length < 1000000 := by have := hLn.out; omega
  have hTc9 : cntT T < 1000000000 := by omega
  clear hmem hmemW hAsk hPown hdeep hk6 hcs hcr hck hcn
  obtain ⟨B0, hB0⟩ : ∃ B0, wr.heap.size = B0 := ⟨_, rfl⟩
  rw [hB0] at hstl hrtl hsz hQc hcut hw0 ⊢
  replace hcut := hid hcut
  replace hstl := hid hstl
  replace hrtl := hid hrtl
  replace hrl2 := hid hrl2
  replace hno := hid hno
  replace hpre := hid hpre
  clear hrl hlt0
  go_wp2_with (first
    | (go_at_call 17; refine hcut.out.mono ?_; clear hcut; rintro e w1 ⟨⟨va1, hA1, hmA⟩, hc1, hg1⟩; obtain ⟨rfl, hmem1⟩ := hg1.no hfn.out; have hS1 := cutS_of hA1 hmA hsz hc1 hstl.out hQc; have hcc : w1.cell? ⟨g.c j, 0, none⟩ = some (.slice (some ⟨gr, 0, none⟩) (g.L j).length rcap) := hmem1.ycell (j := j) hrv.out; have hs1 := hc1.size; dsimp only)
    | (go_at_call 19; refine (hmem1.flat (j := j) hrv.out hLT.out hL6 hrl2.out hTc9).mono ?_; rintro e w2 ⟨va2, vb2, rfl, hF⟩; obtain ⟨tt, tc, rfl, htt, _⟩ := row_slice hF.rb; have hmem2 := hmem1.quiet hF.ch; have hS2 := hS1.keep hF.ch (fun _ h => h.elim); have hQ2 := hS2.q; dsimp only)
    | (go_at_call 20; refine (hmem2.rcut (j := j) hLT.out hL6 hrl2.out ⟨a1, r1, hTa.out, ha1⟩ k deep).mono ?_; rintro e w3 ⟨hc3, hg3⟩; obtain ⟨rfl, hmem3⟩ := hg3.no hfn.out; have hS3 := hS2.keep hc3 hrtl.out; have htg3 := ownsRow_keep hF.rb (fun i hi => hc3.same i (ownsRow_lt hF.rb hi) (fun h => by have := hrtl.out i h; have := hF.nb i hi; omega)); dsimp only))
  refine loopB2 (W := w3) _ _ rfl rfl rfl rfl rfl rfl (fun c9 a9 a8 w9 hd9 h9 => hQ0 c9 a9 a8 w9 hd9 h9) hS3.ask hS3.q htg3 hpre.out hno.out htg ?_
  intro a4 w4 hf hs4
  obtain ⟨G, rfl, hG⟩ := act_open hf.sz hf.df
  have g0 : G 0 = .slice (some ⟨lg, lk, none⟩) ln lc := hG 0 _ (hf.k 0 (by simp))
  have g3 : G 3 = .slice (some ⟨g.bs, 0, none⟩) 2 2 := hG 3 _ (hf.k 3 (by simp))
  have g4 : G 4 = .slice (some ⟨g.br, 0, none⟩) 2 2 := hG 4 _ (hf.k 4 (by simp))
  have g5 : G 5 = g.vp := hG 5 _ (hf.k 5 (by simp))
  have g6 : G 6 = g.vq := hG 6 _ (hf.k 6 (by simp))
  have g7 : G 7 = .int .i64 (t : Nat) := hG 7 _ (hf.k 7 (by simp))
  have g8 : G 8 = .int .i64 (m : Nat) := hG 8 _ (hf.k 8 (by simp))
  have g9 : G 9 = .pointer (some ⟨g.b j, 0, none⟩) := hG 9 _ (hf.k 9 (by simp))
  have g10 : G 10 = .pointer (some ⟨g.c j, 0, none⟩) := hG 10 _ (hf.k 10 (by simp))
  have g26 : G 26 = .pointer (some ⟨B0, 0, none⟩) := hG 26 _ (hf.k 26 (by simp))
  have g28 : G 28 = .pointer (some ⟨B0 + 1, 0, none⟩) := hG 28 _ (hf.k 28 (by simp))
  have g29 : G 29 = .pointer none := hG 29 _ (hf.k 29 (by simp))
  have g33 : G 33 = .slice tt (flatT 0 T).length tc := hG 33 _ (hf.k 33 (by simp))
  have g34 : G 34 = .slice none 0 0 := hG 34 _ (hf.k 34 (by simp))
  have g36 : G 36 = .bool false := hG 36 _ (hf.k 36 (by simp))
  have hflen : (flatT 0 T).length = fa.length := by
    have h1 := hrr.out
    rw [hrr0.out hfn.out, List.append_nil] at h1
    have := congrArg List.length h1
    simpa [tagsR] using this
  rw [hflen] at g33
  rw [g0, g3, g4, g5, g6, g7, g8, g9, g10, g26, g28, g29, g33, g34, g36]
  clear hG hf
  have hS4 := hS3.keep (hs4.ch (fun _ => False)) (fun _ h => h.elim)
  obtain ⟨aa, ca, hva, _⟩ := row_slice hS4.ask.row
  have cA : w4.cell? ⟨B0 + 1, 0, none⟩ = some (.slice aa fa.length ca) := by rw [← hva]; simp [World.cell?, hS4.ask.blk]
  have hmem5 := hmem3.quiet (hs4.ch _)
  have hpl2 := hpl.up
  clear hmem1 hmem2 hmem3 hS1 hS2 hS3 hS4 htg3 hF hcc hQ2 hflen
  go_wp2_with (first
    | (go_at_call 25; refine (hmem5.alike hpl2 (by omega) j).mono ?_; rintro e w3 ⟨rfl, hc6⟩; dsimp only))
  exact round_end (hmem5.quiet hc6) hpl2 hm1 hm2 ht ⟨rfl, rfl, rfl, rfl, rfl, rfl, rfl, rfl, rfl⟩
end Go.Proofs.Ytknjbiineihgfaa
