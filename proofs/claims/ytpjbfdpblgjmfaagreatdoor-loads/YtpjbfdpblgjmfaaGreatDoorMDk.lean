/-
  Decode's loop over a function's instructions.
  Decode's loop over the functions.
-/
import Derived.Test.YtpjbfdpblgjmfaaGreatDoorMD2
import Derived.Test.YtpjbfdpblgjmfaaGreatDoorMDj
set_option linter.unusedVariables false
set_option linter.unusedSimpArgs false
namespace Go.Proofs.YtpjbfdpblgjmfaaGreatDoor
open Go.RowKit

set_option maxRecDepth 100000 in
set_option maxHeartbeats 8000000 in
theorem inss_exit_a {wr : World} {g : Dg} {n i hb : Nat} (F G : Nat → Value) (Q0 : Exit → Act → World → Prop) (J : Act → World → Prop) (h4 : F 4 = .pointer (some ⟨g.b, 0, none⟩)) (h18 : F 18 = .pointer (some ⟨hb, 0, none⟩)) (h19 : F 19 = .int .i64 (n : Nat))
    (hok0 : Calls Tryz.prog 34 #[ptrV g.b] wr fun e w' => e = .returned (.bool (decide (g.r.fk = 0))) ∧ w' = wr) (hi : ¬ i < n) (hexit : ∀ a', FrK [0, 2, 3, 4, 7, 8, 17, 18, 19] F a' → Q0 (.exit 10) a' wr) :
    Code.wp Tryz.prog ((firstLoop ((Tryz.f15.body.map (fun c => (loopsOf c).getD 3 .skip)).getD .skip)).getD .skip) (Exit.then J Q0) ⟨#[F 0, G 1, F 2, F 3, .pointer (some ⟨g.b, 0, none⟩), G 5, G 6, F 7, F 8, G 9, G 10, G 11, G 12, G 13, G 14, G 15, G 16, F 17, .pointer (some ⟨hb, 0, none⟩), .int .i64 (n : Nat), .int .i64 (i : Nat), G 21, G 22, G 23, G 24, G 25, G 26, G 27, G 28, G 29, G 30, G 31, G 32, G 33, G 34, G 35, G 36, G 37, G 38, G 39, G 40, G 41, G 42, G 43, G 44, G 45, G 46, G 47, G 48, G 49, G 50, G 51, G 52, G 53, G 54, G 55, G 56, G 57, G 58, G 59, G 60, G 61, G 62, G 63, G 64, G 65, G 66, G 67, G 68, G 69, G 70, G 71, G 72, G 73, G 74, G 75, G 76, G 77, G 78, G 79, G 80, G 81, G 82, G 83, G 84, G 85, G 86, G 87, G 88, G 89, G 90, G 91, G 92, G 93, G 94, G 95, G 96, G 97, G 98, G 99, G 100, G 101, G 102, G 103, G 104, G 105, G 106, G 107, G 108, G 109, G 110, G 111, G 112, G 113, G 114, G 115, G 116, G 117, G 118, G 119, G 120, G 121, G 122, G 123, G 124, G 125, G 126, G 127, G 128, G 129, G 130, G 131, G 132, G 133, G 134, G 135, G 136, G 137, G 138, G 139, G 140, G 141, G 142, G 143, G 144, G 145, G 146, G 147, G 148, G 149, G 150, G 151, G 152, G 153, G 154, G 155, G 156, G 157, G 158, G 159, G 160, G 161, G 162, G 163, G 164, G 165, G 166, G 167, G 168, G 169, G 170, G 171, G 172, G 173, G 174, G 175, G 176, G 177, G 178, G 179, G 180, G 181, G 182, G 183, G 184, G 185, G 186, G 187, G 188, G 189, G 190, G 191, G 192, G 193, G 194, G 195], []⟩ wr := by
  have hi1 : ¬ ((i : Int) < (n : Int)) := by omega
  clear hi hok0
  conv => arg 2; whnf
  go_wp2
  refine ⟨rfl, rfl, fun x9 hx9 => ?_⟩
  simp only [List.mem_cons, List.not_mem_nil, or_false] at hx9
  rcases hx9 with rfl | rfl | rfl | rfl | rfl | rfl | rfl | rfl | rfl
  all_goals first
    | rfl
    | exact congrArg some h4.symm
    | exact congrArg some h18.symm
    | exact congrArg some h19.symm
set_option maxRecDepth 100000 in
set_option maxHeartbeats 8000000 in
theorem inss_exit_b {wr : World} {g : Dg} {n i hb : Nat} (F G : Nat → Value) (Q0 : Exit → Act → World → Prop) (J : Act → World → Prop) (h4 : F 4 = .pointer (some ⟨g.b, 0, none⟩)) (h18 : F 18 = .pointer (some ⟨hb, 0, none⟩)) (h19 : F 19 = .int .i64 (n : Nat))
    (hok0 : Calls Tryz.prog 34 #[ptrV g.b] wr fun e w' => e = .returned (.bool (decide (g.r.fk = 0))) ∧ w' = wr) (hi : i < n) (hf : ¬ g.r.fk = 0) (hexit : ∀ a', FrK [0, 2, 3, 4, 7, 8, 17, 18, 19] F a' → Q0 (.exit 10) a' wr) :
    Code.wp Tryz.prog ((firstLoop ((Tryz.f15.body.map (fun c => (loopsOf c).getD 3 .skip)).getD .skip)).getD .skip) (Exit.then J Q0) ⟨#[F 0, G 1, F 2, F 3, .pointer (some ⟨g.b, 0, none⟩), G 5, G 6, F 7, F 8, G 9, G 10, G 11, G 12, G 13, G 14, G 15, G 16, F 17, .pointer (some ⟨hb, 0, none⟩), .int .i64 (n : Nat), .int .i64 (i : Nat), G 21, G 22, G 23, G 24, G 25, G 26, G 27, G 28, G 29, G 30, G 31, G 32, G 33, G 34, G 35, G 36, G 37, G 38, G 39, G 40, G 41, G 42, G 43, G 44, G 45, G 46, G 47, G 48, G 49, G 50, G 51, G 52, G 53, G 54, G 55, G 56, G 57, G 58, G 59, G 60, G 61, G 62, G 63, G 64, G 65, G 66, G 67, G 68, G 69, G 70, G 71, G 72, G 73, G 74, G 75, G 76, G 77, G 78, G 79, G 80, G 81, G 82, G 83, G 84, G 85, G 86, G 87, G 88, G 89, G 90, G 91, G 92, G 93, G 94, G 95, G 96, G 97, G 98, G 99, G 100, G 101, G 102, G 103, G 104, G 105, G 106, G 107, G 108, G 109, G 110, G 111, G 112, G 113, G 114, G 115, G 116, G 117, G 118, G 119, G 120, G 121, G 122, G 123, G 124, G 125, G 126, G 127, G 128, G 129, G 130, G 131, G 132, G 133, G 134, G 135, G 136, G 137, G 138, G 139, G 140, G 141, G 142, G 143, G 144, G 145, G 146, G 147, G 148, G 149, G 150, G 151, G 152, G 153, G 154, G 155, G 156, G 157, G 158, G 159, G 160, G 161, G 162, G 163, G 164, G 165, G 166, G 167, G 168, G 169, G 170, G 171, G 172, G 173, G 174, G 175, G 176, G 177, G 178, G 179, G 180, G 181, G 182, G 183, G 184, G 185, G 186, G 187, G 188, G 189, G 190, G 191, G 192, G 193, G 194, G 195], []⟩ wr := by
  have hi1 : (i : Int) < (n : Int) := by omega
  have hok := hok0
  rw [show decide (g.r.fk = 0) = false by simp [hf]] at hok
  unfold ptrV at hok
  clear hi hok0
  conv => arg 2; whnf
  go_wp2_with (go_at_call 34; refine hok.mono ?_; clear hok; rintro e wr ⟨rfl, rfl⟩; dsimp only)
  refine ⟨rfl, rfl, fun x9 hx9 => ?_⟩
  simp only [List.mem_cons, List.not_mem_nil, or_false] at hx9
  rcases hx9 with rfl | rfl | rfl | rfl | rfl | rfl | rfl | rfl | rfl
  all_goals first
    | rfl
    | exact congrArg some h4.symm
    | exact congrArg some h18.symm
    | exact congrArg some h19.symm
theorem sst_cellsn {w0 w : World} {s : List UInt8} {g : Dg} {hb : Nat} {u : Value} {n : Nat} {xs : List Value} {fr sl : Int} (h : Sst 85 [.int .i64 fr, .int .i64 sl] 123 4 w0 s g hb u n xs w) : w.cell? ⟨hb, 2, none⟩ = some u ∧ w.frozen? ⟨hb, 2, none⟩ = false := by
  have := h.b
  constructor
  · simp [World.cell?, this]
  · simp [World.frozen?, this]
set_option maxRecDepth 100000 in
set_option maxHeartbeats 8000000 in
theorem inss_round {w0 wr : World} {s : List UInt8} {g : Dg} {n i hb : Nat} {fr sl : Int} {u : Value} {l : List Cd.Ins} {x : Cd.Ins} {r1 : Cd.Rd} (F G : Nat → Value) (Q0 : Exit → Act → World → Prop) (hQ0 : ∀ c a a' w, a.defers = a'.defers → Q0 (.panic c) a w → Q0 (.panic c) a' w) (h4 : F 4 = .pointer (some ⟨g.b, 0, none⟩)) (h18 : F 18 = .pointer (some ⟨hb, 0, none⟩)) (h19 : F 19 = .int .i64 (n : Nat))
    (hs : s.length ≤ 4000000) (hst : Sst 85 [.int .i64 fr, .int .i64 sl] 123 4 w0 s g hb u l.length (l.flatMap insC) wr) (hi : i < n) (hn : n ≤ 65535) (hf : g.r.fk = 0) (hl : l.length ≤ i) (hk : g.r.ins s = (x, r1)) :
    Code.wp Tryz.prog ((firstLoop ((Tryz.f15.body.map (fun c => (loopsOf c).getD 3 .skip)).getD .skip)).getD .skip) (Exit.then (fun a' w' => FrK [0, 2, 3, 4, 7, 8, 17, 18, 19] F a' ∧ a'.tmps[20]? = some (.int .i64 ((i : Int) + 1)) ∧ ∃ v, Sst 85 [.int .i64 fr, .int .i64 sl] 123 4 w0 s { g with r := r1 } hb v (l ++ [x]).length ((l ++ [x]).flatMap insC) w') Q0) ⟨#[F 0, G 1, F 2, F 3, .pointer (some ⟨g.b, 0, none⟩), G 5, G 6, F 7, F 8, G 9, G 10, G 11, G 12, G 13, G 14, G 15, G 16, F 17, .pointer (some ⟨hb, 0, none⟩), .int .i64 (n : Nat), .int .i64 (i : Nat), G 21, G 22, G 23, G 24, G 25, G 26, G 27, G 28, G 29, G 30, G 31, G 32, G 33, G 34, G 35, G 36, G 37, G 38, G 39, G 40, G 41, G 42, G 43, G 44, G 45, G 46, G 47, G 48, G 49, G 50, G 51, G 52, G 53, G 54, G 55, G 56, G 57, G 58, G 59, G 60, G 61, G 62, G 63, G 64, G 65, G 66, G 67, G 68, G 69, G 70, G 71, G 72, G 73, G 74, G 75, G 76, G 77, G 78, G 79, G 80, G 81, G 82, G 83, G 84, G 85, G 86, G 87, G 88, G 89, G 90, G 91, G 92, G 93, G 94, G 95, G 96, G 97, G 98, G 99, G 100, G 101, G 102, G 103, G 104, G 105, G 106, G 107, G 108, G 109, G 110, G 111, G 112, G 113, G 114, G 115, G 116, G 117, G 118, G 119, G 120, G 121, G 122, G 123, G 124, G 125, G 126, G 127, G 128, G 129, G 130, G 131, G 132, G 133, G 134, G 135, G 136, G 137, G 138, G 139, G 140, G 141, G 142, G 143, G 144, G 145, G 146, G 147, G 148, G 149, G 150, G 151, G 152, G 153, G 154, G 155, G 156, G 157, G 158, G 159, G 160, G 161, G 162, G 163, G 164, G 165, G 166, G 167, G 168, G 169, G 170, G 171, G 172, G 173, G 174, G 175, G 176, G 177, G 178, G 179, G 180, G 181, G 182, G 183, G 184, G 185, G 186, G 187, G 188, G 189, G 190, G 191, G 192, G 193, G 194, G 195], []⟩ wr := by
  have hmx : Tryz.prog.follows .mixedOrders = true := by kernel_rfl
  have hi1 : (i : Int) < (n : Int) := by omega
  have hw : IntKind.i64.wrap ((i : Int) + 1) = (i : Int) + 1 := IntWalk.i64_in _ (by omega)
  have hok := hst.m.ok
  dsimp only at hok
  rw [show decide (g.r.fk = 0) = true by simp [hf]] at hok
  unfold ptrV at hok
  replace hst := hst.quiet (Ch.drew (fun _ => False) wr)
  have hcall := hst.m.ins hs
  dsimp only at hcall
  rw [hk] at hcall
  unfold ptrV at hcall
  obtain ⟨c0a, c0b⟩ := sst_cellsn hst
  obtain ⟨ua, uc, hu, _⟩ := row_slice hst.r
  rw [hu] at c0a
  replace hu := hid hu
  replace hst := hid hst
  replace hk := hid hk
  conv => arg 2; whnf
  go_upto_region 47 with (go_at_call 34; refine hok.mono ?_; clear hok; rintro e wr ⟨rfl, rfl⟩; dsimp only)
  refine wp_region_held_drew (S := (fun _ => True)) (by kernel_rfl) (by first | trivial | ((try dsimp only); go_keep)) (fun hHeld => ?_)
  refine wpAnyH_take (i := 0) (v := ?vvn2011) rfl (by kernel_rfl) (by kernel_rfl) (by kernel_rfl) (fun c9 a9 w9 h9 => hQ0 c9 (a9.put _ _) a9 w9 (by rfl) h9) (Or.inl ⟨by rfl, ?yyn2011⟩) (by assumption) ?rrn2011
  case yyn2011 => (intro w' hSw; (try dsimp only at hSw); go_simp; (try with_reducible rfl))
  try simp only [Act.put, List.setIfInBounds_toArray, List.set_cons_zero, List.set_cons_succ]
  refine wpAnyH_take (i := 2) (v := ?vvn2012) rfl (by kernel_rfl) (by kernel_rfl) (by kernel_rfl) (fun c9 a9 w9 h9 => hQ0 c9 (a9.put _ _) a9 w9 (by rfl) h9) (Or.inl ⟨by rfl, ?yyn2012⟩) (by assumption) ?rrn2012
  case yyn2012 => (intro w' hSw; (try dsimp only at hSw); go_simp; (try with_reducible rfl))
  try simp only [Act.put, List.setIfInBounds_toArray, List.set_cons_zero, List.set_cons_succ]
  refine wpAnyH_ready (rs := [1, 3]) (by kernel_rfl) (by simp) (AllReadyH.cons rfl (fun K hK => ?_) (AllReadyH.cons rfl (fun K hK => ?_) AllReadyH.nil))
  · go_simp
    clear hHeld
    refine hK.out _ _ ?hs (fun hHeld => ?_)
    case hs => (first | trivial | ((try dsimp only); go_keep) | ((try dsimp only); simp [*, World.cell?_alloc_some, World.cell?_setCell_far, World.cell?_setCell_other]))
    clear hK K
    try simp only [Act.put, List.setIfInBounds_toArray, List.set_cons_zero, List.set_cons_succ]
    refine wpAnyH_ready (rs := [3]) (by kernel_rfl) (by simp) (AllReadyH.cons rfl (fun K hK => ?_) AllReadyH.nil)
    go_simp
    refine hcall.mono ?_
    clear hcall
    rintro e w1 ⟨rfl, hm1, hc1⟩
    unfold insV
    have h1 := hst.out.read hm1 hc1
    obtain ⟨c1a, c1b⟩ := sst_cellsn h1
    rw [hu.out] at c1a
    have hr1 := h1.r
    rw [hu.out] at hr1
    have c2a : (w1.alloc (.cells #[.int .i64 x.op, .int .i64 x.a, .int .i64 x.b, .int .i64 x.n] 123)).cell? ⟨hb, 2, none⟩ = some (.slice ua l.length uc) := ((Ch.alloc (fun _ => False) w1 _).cell (p := ⟨hb, 2, none⟩) h1.lt (fun e => e)).trans c1a
    have hrA : (w1.alloc (.cells #[.int .i64 x.op, .int .i64 x.a, .int .i64 x.b, .int .i64 x.n] 123)).ownsRow 0 123 4 (.slice ua l.length uc) l.length (l.flatMap insC) := ownsRow_keep hr1 (fun k hk => (Ch.alloc (fun _ => False) w1 _).same k (ownsRow_lt hr1 hk) (fun h => h))
    have hAc := new_cells w1 [.int .i64 x.op, .int .i64 x.a, .int .i64 x.b, .int .i64 x.n] 123
    have hne1 := h1.ne
    have hlt1 := h1.lt
    have hb1 := h1.b
    replace h1 := hid h1
    clear hm1
    dsimp only
    clear hHeld
    refine hK.out _ _ ?hs (fun hHeld => ?_)
    case hs => (first | trivial | ((try dsimp only); go_keep) | ((try dsimp only); simp [*, World.cell?_alloc_some, World.cell?_setCell_far, World.cell?_setCell_other]))
    clear hK K
    try simp only [Act.put, List.setIfInBounds_toArray, List.set_cons_zero, List.set_cons_succ]
    refine wpAnyH_ready (rs := [4]) (by kernel_rfl) (by simp) (AllReadyH.cons rfl (fun K hK => ?_) AllReadyH.nil)
    go_simp
    clear hHeld
    refine hK.out _ _ ?hs (fun hHeld => ?_)
    case hs => (first | trivial | ((try dsimp only); go_keep) | ((try dsimp only); simp [*, World.cell?_alloc_some, World.cell?_setCell_far, World.cell?_setCell_other]))
    clear hK K
    try simp only [Act.put, List.setIfInBounds_toArray, List.set_cons_zero, List.set_cons_succ]
    refine wpAnyH_ready (rs := [5]) (by kernel_rfl) (by simp) (AllReadyH.cons rfl (fun K hK => ?_) AllReadyH.nil)
    refine step_append rfl (.tmp 157) (.tmp 160) 83 rfl 123 (.agg #[.int .i64 0, .int .i64 0, .int .i64 0, .int .i64 0]) 4 32 Tryz.underlying83 Tryz.infoIns rfl (by decide) (.slice ua l.length uc) l.length (l.flatMap insC) (by simp [Act.eval]) hrA ⟨w1.heap.size, 0, none⟩ 1 1 [.int .i64 x.op, .int .i64 x.a, .int .i64 x.b, .int .i64 x.n] (by simp [Act.eval]) rfl hAc (by simp [Value.oneCell']) (by unfold maxLen; omega) (by omega) ?_
    intro v5 w5 hrow5 hgrow5 hblk5
    obtain ⟨g5, c5, rfl⟩ := ownsRow_succ hrow5
    obtain ⟨d5, df5⟩ := cb_after (i := 2) hb1 hlt1 (show (Value.slice ua l.length uc).ownBlock ≠ some hb by rw [← hu.out]; exact hne1) hgrow5 rfl
    clear hHeld
    refine hK.out _ _ ?hs (fun hHeld => ?_)
    case hs => (first | trivial | ((try dsimp only); go_keep) | ((try dsimp only); simp [*, World.cell?_alloc_some, World.cell?_setCell_far, World.cell?_setCell_other]))
    clear hK K
    try simp only [Act.put, List.setIfInBounds_toArray, List.set_cons_zero, List.set_cons_succ]
    refine wpAnyH_take (i := 6) (v := ?vvn2013) rfl (by kernel_rfl) (by kernel_rfl) (by kernel_rfl) (fun c9 a9 w9 h9 => hQ0 c9 (a9.put _ _) a9 w9 (by rfl) h9) (Or.inl ⟨by rfl, ?yyn2013⟩) (by assumption) ?rrn2013
    case yyn2013 => (intro w' hSw; (try dsimp only at hSw); go_simp; (try with_reducible rfl))
    try simp only [Act.put, List.setIfInBounds_toArray, List.set_cons_zero, List.set_cons_succ]
    refine wpAnyH_ready (rs := [7]) (by kernel_rfl) (by simp) (AllReadyH.cons rfl (fun K hK => ?_) AllReadyH.nil)
    go_simp
    clear hHeld
    refine hK.out _ _ ?hs (fun hHeld => ?_)
    case hs => (first | trivial | ((try dsimp only); go_keep) | ((try dsimp only); simp [*, World.cell?_alloc_some, World.cell?_setCell_far, World.cell?_setCell_other]))
    clear hK K
    try simp only [Act.put, List.setIfInBounds_toArray, List.set_cons_zero, List.set_cons_succ]
    refine wpAnyH_done (by kernel_rfl) ?_ _
    clear hHeld
    have hfin := h1.out.push (v' := .slice (some ⟨g5, 0, none⟩) (l.length + 1) c5) (w1 := w5) hrow5 (by rw [hu.out]; exact app_ch (Ch.alloc _ _ _) hgrow5) (by rw [hu.out]; exact app_more (Ch.alloc _ w1 _) hblk5)
    go_wp2
    refine ⟨⟨rfl, rfl, fun x9 hx9 => ?_⟩, _, (by simpa [insC] using hfin)⟩
    simp only [List.mem_cons, List.not_mem_nil, or_false] at hx9
    rcases hx9 with rfl | rfl | rfl | rfl | rfl | rfl | rfl | rfl | rfl
    all_goals first
      | rfl
      | exact congrArg some h4.symm
      | exact congrArg some h18.symm
      | exact congrArg some h19.symm
  · go_simp
    refine hcall.mono ?_
    clear hcall
    rintro e w1 ⟨rfl, hm1, hc1⟩
    unfold insV
    have h1 := hst.out.read hm1 hc1
    obtain ⟨c1a, c1b⟩ := sst_cellsn h1
    rw [hu.out] at c1a
    have hr1 := h1.r
    rw [hu.out] at hr1
    have c2a : (w1.alloc (.cells #[.int .i64 x.op, .int .i64 x.a, .int .i64 x.b, .int .i64 x.n] 123)).cell? ⟨hb, 2, none⟩ = some (.slice ua l.length uc) := ((Ch.alloc (fun _ => False) w1 _).cell (p := ⟨hb, 2, none⟩) h1.lt (fun e => e)).trans c1a
    have hrA : (w1.alloc (.cells #[.int .i64 x.op, .int .i64 x.a, .int .i64 x.b, .int .i64 x.n] 123)).ownsRow 0 123 4 (.slice ua l.length uc) l.length (l.flatMap insC) := ownsRow_keep hr1 (fun k hk => (Ch.alloc (fun _ => False) w1 _).same k (ownsRow_lt hr1 hk) (fun h => h))
    have hAc := new_cells w1 [.int .i64 x.op, .int .i64 x.a, .int .i64 x.b, .int .i64 x.n] 123
    have hne1 := h1.ne
    have hlt1 := h1.lt
    have hb1 := h1.b
    replace h1 := hid h1
    clear hm1
    dsimp only
    clear hHeld
    refine hK.out _ _ ?hs (fun hHeld => ?_)
    case hs => (first | trivial | ((try dsimp only); go_keep) | ((try dsimp only); simp [*, World.cell?_alloc_some, World.cell?_setCell_far, World.cell?_setCell_other]))
    clear hK K
    try simp only [Act.put, List.setIfInBounds_toArray, List.set_cons_zero, List.set_cons_succ]
    refine wpAnyH_ready (rs := [1, 4]) (by kernel_rfl) (by simp) (AllReadyH.cons rfl (fun K hK => ?_) (AllReadyH.cons rfl (fun K hK => ?_) AllReadyH.nil))
    · go_simp
      clear hHeld
      refine hK.out _ _ ?hs (fun hHeld => ?_)
      case hs => (first | trivial | ((try dsimp only); go_keep) | ((try dsimp only); simp [*, World.cell?_alloc_some, World.cell?_setCell_far, World.cell?_setCell_other]))
      clear hK K
      try simp only [Act.put, List.setIfInBounds_toArray, List.set_cons_zero, List.set_cons_succ]
      refine wpAnyH_ready (rs := [4]) (by kernel_rfl) (by simp) (AllReadyH.cons rfl (fun K hK => ?_) AllReadyH.nil)
      go_simp
      clear hHeld
      refine hK.out _ _ ?hs (fun hHeld => ?_)
      case hs => (first | trivial | ((try dsimp only); go_keep) | ((try dsimp only); simp [*, World.cell?_alloc_some, World.cell?_setCell_far, World.cell?_setCell_other]))
      clear hK K
      try simp only [Act.put, List.setIfInBounds_toArray, List.set_cons_zero, List.set_cons_succ]
      refine wpAnyH_ready (rs := [5]) (by kernel_rfl) (by simp) (AllReadyH.cons rfl (fun K hK => ?_) AllReadyH.nil)
      refine step_append rfl (.tmp 157) (.tmp 160) 83 rfl 123 (.agg #[.int .i64 0, .int .i64 0, .int .i64 0, .int .i64 0]) 4 32 Tryz.underlying83 Tryz.infoIns rfl (by decide) (.slice ua l.length uc) l.length (l.flatMap insC) (by simp [Act.eval]) hrA ⟨w1.heap.size, 0, none⟩ 1 1 [.int .i64 x.op, .int .i64 x.a, .int .i64 x.b, .int .i64 x.n] (by simp [Act.eval]) rfl hAc (by simp [Value.oneCell']) (by unfold maxLen; omega) (by omega) ?_
      intro v5 w5 hrow5 hgrow5 hblk5
      obtain ⟨g5, c5, rfl⟩ := ownsRow_succ hrow5
      obtain ⟨d5, df5⟩ := cb_after (i := 2) hb1 hlt1 (show (Value.slice ua l.length uc).ownBlock ≠ some hb by rw [← hu.out]; exact hne1) hgrow5 rfl
      clear hHeld
      refine hK.out _ _ ?hs (fun hHeld => ?_)
      case hs => (first | trivial | ((try dsimp only); go_keep) | ((try dsimp only); simp [*, World.cell?_alloc_some, World.cell?_setCell_far, World.cell?_setCell_other]))
      clear hK K
      try simp only [Act.put, List.setIfInBounds_toArray, List.set_cons_zero, List.set_cons_succ]
      refine wpAnyH_take (i := 6) (v := ?vvn2014) rfl (by kernel_rfl) (by kernel_rfl) (by kernel_rfl) (fun c9 a9 w9 h9 => hQ0 c9 (a9.put _ _) a9 w9 (by rfl) h9) (Or.inl ⟨by rfl, ?yyn2014⟩) (by assumption) ?rrn2014
      case yyn2014 => (intro w' hSw; (try dsimp only at hSw); go_simp; (try with_reducible rfl))
      try simp only [Act.put, List.setIfInBounds_toArray, List.set_cons_zero, List.set_cons_succ]
      refine wpAnyH_ready (rs := [7]) (by kernel_rfl) (by simp) (AllReadyH.cons rfl (fun K hK => ?_) AllReadyH.nil)
      go_simp
      clear hHeld
      refine hK.out _ _ ?hs (fun hHeld => ?_)
      case hs => (first | trivial | ((try dsimp only); go_keep) | ((try dsimp only); simp [*, World.cell?_alloc_some, World.cell?_setCell_far, World.cell?_setCell_other]))
      clear hK K
      try simp only [Act.put, List.setIfInBounds_toArray, List.set_cons_zero, List.set_cons_succ]
      refine wpAnyH_done (by kernel_rfl) ?_ _
      clear hHeld
      have hfin := h1.out.push (v' := .slice (some ⟨g5, 0, none⟩) (l.length + 1) c5) (w1 := w5) hrow5 (by rw [hu.out]; exact app_ch (Ch.alloc _ _ _) hgrow5) (by rw [hu.out]; exact app_more (Ch.alloc _ w1 _) hblk5)
      go_wp2
      refine ⟨⟨rfl, rfl, fun x9 hx9 => ?_⟩, _, (by simpa [insC] using hfin)⟩
      simp only [List.mem_cons, List.not_mem_nil, or_false] at hx9
      rcases hx9 with rfl | rfl | rfl | rfl | rfl | rfl | rfl | rfl | rfl
      all_goals first
        | rfl
        | exact congrArg some h4.symm
        | exact congrArg some h18.symm
        | exact congrArg some h19.symm
    · go_simp
      clear hHeld
      refine hK.out _ _ ?hs (fun hHeld => ?_)
      case hs => (first | trivial | ((try dsimp only); go_keep) | ((try dsimp only); simp [*, World.cell?_alloc_some, World.cell?_setCell_far, World.cell?_setCell_other]))
      clear hK K
      try simp only [Act.put, List.setIfInBounds_toArray, List.set_cons_zero, List.set_cons_succ]
      refine wpAnyH_ready (rs := [1]) (by kernel_rfl) (by simp) (AllReadyH.cons rfl (fun K hK => ?_) AllReadyH.nil)
      go_simp
      clear hHeld
      refine hK.out _ _ ?hs (fun hHeld => ?_)
      case hs => (first | trivial | ((try dsimp only); go_keep) | ((try dsimp only); simp [*, World.cell?_alloc_some, World.cell?_setCell_far, World.cell?_setCell_other]))
      clear hK K
      try simp only [Act.put, List.setIfInBounds_toArray, List.set_cons_zero, List.set_cons_succ]
      refine wpAnyH_ready (rs := [5]) (by kernel_rfl) (by simp) (AllReadyH.cons rfl (fun K hK => ?_) AllReadyH.nil)
      refine step_append rfl (.tmp 157) (.tmp 160) 83 rfl 123 (.agg #[.int .i64 0, .int .i64 0, .int .i64 0, .int .i64 0]) 4 32 Tryz.underlying83 Tryz.infoIns rfl (by decide) (.slice ua l.length uc) l.length (l.flatMap insC) (by simp [Act.eval]) hrA ⟨w1.heap.size, 0, none⟩ 1 1 [.int .i64 x.op, .int .i64 x.a, .int .i64 x.b, .int .i64 x.n] (by simp [Act.eval]) rfl hAc (by simp [Value.oneCell']) (by unfold maxLen; omega) (by omega) ?_
      intro v5 w5 hrow5 hgrow5 hblk5
      obtain ⟨g5, c5, rfl⟩ := ownsRow_succ hrow5
      obtain ⟨d5, df5⟩ := cb_after (i := 2) hb1 hlt1 (show (Value.slice ua l.length uc).ownBlock ≠ some hb by rw [← hu.out]; exact hne1) hgrow5 rfl
      clear hHeld
      refine hK.out _ _ ?hs (fun hHeld => ?_)
      case hs => (first | trivial | ((try dsimp only); go_keep) | ((try dsimp only); simp [*, World.cell?_alloc_some, World.cell?_setCell_far, World.cell?_setCell_other]))
      clear hK K
      try simp only [Act.put, List.setIfInBounds_toArray, List.set_cons_zero, List.set_cons_succ]
      refine wpAnyH_take (i := 6) (v := ?vvn2015) rfl (by kernel_rfl) (by kernel_rfl) (by kernel_rfl) (fun c9 a9 w9 h9 => hQ0 c9 (a9.put _ _) a9 w9 (by rfl) h9) (Or.inl ⟨by rfl, ?yyn2015⟩) (by assumption) ?rrn2015
      case yyn2015 => (intro w' hSw; (try dsimp only at hSw); go_simp; (try with_reducible rfl))
      try simp only [Act.put, List.setIfInBounds_toArray, List.set_cons_zero, List.set_cons_succ]
      refine wpAnyH_ready (rs := [7]) (by kernel_rfl) (by simp) (AllReadyH.cons rfl (fun K hK => ?_) AllReadyH.nil)
      go_simp
      clear hHeld
      refine hK.out _ _ ?hs (fun hHeld => ?_)
      case hs => (first | trivial | ((try dsimp only); go_keep) | ((try dsimp only); simp [*, World.cell?_alloc_some, World.cell?_setCell_far, World.cell?_setCell_other]))
      clear hK K
      try simp only [Act.put, List.setIfInBounds_toArray, List.set_cons_zero, List.set_cons_succ]
      refine wpAnyH_done (by kernel_rfl) ?_ _
      clear hHeld
      have hfin := h1.out.push (v' := .slice (some ⟨g5, 0, none⟩) (l.length + 1) c5) (w1 := w5) hrow5 (by rw [hu.out]; exact app_ch (Ch.alloc _ _ _) hgrow5) (by rw [hu.out]; exact app_more (Ch.alloc _ w1 _) hblk5)
      go_wp2
      refine ⟨⟨rfl, rfl, fun x9 hx9 => ?_⟩, _, (by simpa [insC] using hfin)⟩
      simp only [List.mem_cons, List.not_mem_nil, or_false] at hx9
      rcases hx9 with rfl | rfl | rfl | rfl | rfl | rfl | rfl | rfl | rfl
      all_goals first
        | rfl
        | exact congrArg some h4.symm
        | exact congrArg some h18.symm
        | exact congrArg some h19.symm
theorem inss_loop {w0 W : World} {s : List UInt8} {g : Dg} {n hb : Nat} {fr sl : Int} (F : Nat → Value) (Q0 : Exit → Act → World → Prop) (hQ0 : ∀ c a a' w, a.defers = a'.defers → Q0 (.panic c) a w → Q0 (.panic c) a' w) (h4 : F 4 = .pointer (some ⟨g.b, 0, none⟩)) (h18 : F 18 = .pointer (some ⟨hb, 0, none⟩)) (h19 : F 19 = .int .i64 (n : Nat)) (hs : s.length ≤ 4000000) (hn : n ≤ 65535) (hst : Sst 85 [.int .i64 fr, .int .i64 sl] 123 4 w0 s g hb (.slice none 0 0) 0 [] W) (a0 : Act) (hfr : FrK [0, 2, 3, 4, 7, 8, 17, 18, 19] F a0) (h0 : a0.tmps[20]? = some (.int .i64 0))
    (hexit : ∀ a' w' u, FrK [0, 2, 3, 4, 7, 8, 17, 18, 19] F a' → Sst 85 [.int .i64 fr, .int .i64 sl] 123 4 w0 s { g with r := (g.r.insL s n).2 } hb u (g.r.insL s n).1.length ((g.r.insL s n).1.flatMap insC) w' → Q0 (.exit 10) a' w') : Code.wp Tryz.prog (Code.loop ((firstLoop ((Tryz.f15.body.map (fun c => (loopsOf c).getD 3 .skip)).getD .skip)).getD .skip)) Q0 a0 W := by
  refine wp_loop (fun a w => ∃ (i : Nat) (r : Cd.Rd) (u : Value) (l : List Cd.Ins), i ≤ n ∧ l.length ≤ i ∧ FrK [0, 2, 3, 4, 7, 8, 17, 18, 19] F a ∧ a.tmps[20]? = some (.int .i64 (i : Nat)) ∧ Sst 85 [.int .i64 fr, .int .i64 sl] 123 4 w0 s { g with r := r } hb u l.length (l.flatMap insC) w ∧ g.r.insL s n = (l ++ (r.insL s (n - i)).1, (r.insL s (n - i)).2)) (fun a _ => n - (intOf (a.tmps.getD 20 undef)).toNat) ⟨0, g.r, .slice none 0 0, [], Nat.zero_le _, Nat.le_refl _, hfr, h0, by simpa using hst, by simp⟩ ?_
  rintro a w ⟨i, r, u, l, hi, hl, hf, hi9, hd, hrel⟩
  have hmu : (intOf (a.tmps.getD 20 undef)).toNat = i := by simp [Array.getD_eq_getD_getElem?, hi9, intOf]
  rw [hmu]
  obtain ⟨G, rfl, hG⟩ := act_open hf.sz hf.df
  have hok0 := hd.m.ok
  have hout : (¬ i < n ∨ ¬ r.fk = 0) → ∀ a', FrK [0, 2, 3, 4, 7, 8, 17, 18, 19] F a' → Q0 (.exit 10) a' w := fun hw a' hk => by
    have e : r.insL s (n - i) = ([], r) := by
      rcases hw with e | e
      · rw [show n - i = 0 by omega]; rfl
      · cases hni : n - i with
        | zero => rfl
        | succ j => simp [Cd.Rd.insL, e]
    rw [e] at hrel
    refine hexit a' w u hk ?_
    rw [hrel]
    simpa using hd
  have f0 : G 0 = F 0 := hG 0 _ (hf.k 0 (by simp))
  have f2 : G 2 = F 2 := hG 2 _ (hf.k 2 (by simp))
  have f3 : G 3 = F 3 := hG 3 _ (hf.k 3 (by simp))
  have f4 : G 4 = F 4 := hG 4 _ (hf.k 4 (by simp))
  have f7 : G 7 = F 7 := hG 7 _ (hf.k 7 (by simp))
  have f8 : G 8 = F 8 := hG 8 _ (hf.k 8 (by simp))
  have f17 : G 17 = F 17 := hG 17 _ (hf.k 17 (by simp))
  have f18 : G 18 = F 18 := hG 18 _ (hf.k 18 (by simp))
  have f19 : G 19 = F 19 := hG 19 _ (hf.k 19 (by simp))
  have fi : G 20 = .int .i64 (i : Nat) := hG 20 _ hi9
  rw [h4] at f4
  rw [h18] at f18
  rw [h19] at f19
  rw [f0, f2, f3, f4, f7, f8, f17, f18, f19, fi]
  clear hG hf hi9
  by_cases hlt : i < n
  · by_cases h0 : r.fk = 0
    · obtain ⟨x, r1, hk⟩ : ∃ x r1, r.ins s = (x, r1) := ⟨_, _, rfl⟩
      have hstep : g.r.insL s n = ((l ++ [x]) ++ (r1.insL s (n - (i + 1))).1, (r1.insL s (n - (i + 1))).2) := by
        rw [hrel, show n - i = (n - (i + 1)) + 1 by omega]
        simp only [Cd.Rd.insL, if_pos h0, hk]
        simp
      refine wp_mono (inss_round (g := { g with r := r }) F G Q0 hQ0 h4 h18 h19 hs hd hlt hn h0 hl hk) ?_
      intro e a' w' h
      have fin : (FrK [0, 2, 3, 4, 7, 8, 17, 18, 19] F a' ∧ a'.tmps[20]? = some (.int .i64 ((i : Int) + 1)) ∧ ∃ v, Sst 85 [.int .i64 fr, .int .i64 sl] 123 4 w0 s { ({ g with r := r } : Dg) with r := r1 } hb v (l ++ [x]).length ((l ++ [x]).flatMap insC) w') → (∃ (i : Nat) (r : Cd.Rd) (u : Value) (l : List Cd.Ins), i ≤ n ∧ l.length ≤ i ∧ FrK [0, 2, 3, 4, 7, 8, 17, 18, 19] F a' ∧ a'.tmps[20]? = some (.int .i64 (i : Nat)) ∧ Sst 85 [.int .i64 fr, .int .i64 sl] 123 4 w0 s { g with r := r } hb u l.length (l.flatMap insC)  w' ∧ g.r.insL s n = (l ++ (r.insL s (n - i)).1, (r.insL s (n - i)).2)) ∧ n - (intOf (a'.tmps.getD 20 undef)).toNat < n - i := by
        rintro ⟨b1, b2, v', b3⟩
        refine ⟨⟨i + 1, r1, v', (l ++ [x]), by omega, by simp; omega, b1, by simpa using b2, b3, hstep⟩, ?_⟩
        simp only [Array.getD_eq_getD_getElem?, b2, Option.getD_some, intOf]
        omega
      cases e <;> first | exact fin h | exact h
    · exact inss_exit_b (g := { g with r := r }) F G Q0 _ h4 h18 h19 hok0 hlt h0 (hout (.inr h0))
  · exact inss_exit_a (g := { g with r := r }) F G Q0 _ h4 h18 h19 hok0 hlt (hout (.inl hlt))
theorem inss_loop2 {w0 W : World} {s : List UInt8} {g : Dg} {n hb : Nat} {fr sl : Int} (a0 : Act) (Q0 : Exit → Act → World → Prop) (hsz : a0.tmps.size = 196) (hdf : a0.defers = []) (h0 : a0.tmps[20]? = some (.int .i64 0)) (h4 : a0.tmps.getD 4 undef = .pointer (some ⟨g.b, 0, none⟩)) (h18 : a0.tmps.getD 18 undef = .pointer (some ⟨hb, 0, none⟩)) (h19 : a0.tmps.getD 19 undef = .int .i64 (n : Nat)) (hQ0 : ∀ c a a' w, a.defers = a'.defers → Q0 (.panic c) a w → Q0 (.panic c) a' w) (hs : s.length ≤ 4000000) (hn : n ≤ 65535) (hst : Sst 85 [.int .i64 fr, .int .i64 sl] 123 4 w0 s g hb (.slice none 0 0) 0 [] W)
    (hexit : ∀ a' w' u, FrK [0, 2, 3, 4, 7, 8, 17, 18, 19] (fun i => a0.tmps.getD i undef) a' → Sst 85 [.int .i64 fr, .int .i64 sl] 123 4 w0 s { g with r := (g.r.insL s n).2 } hb u (g.r.insL s n).1.length ((g.r.insL s n).1.flatMap insC) w' → Q0 (.exit 10) a' w') : Code.wp Tryz.prog (Code.loop ((firstLoop ((Tryz.f15.body.map (fun c => (loopsOf c).getD 3 .skip)).getD .skip)).getD .skip)) Q0 a0 W :=
  inss_loop (fun i => a0.tmps.getD i undef) Q0 hQ0 h4 h18 h19 hs hn hst a0 (frk_self hsz hdf (by simp)) h0 hexit
end Go.Proofs.YtpjbfdpblgjmfaaGreatDoor

namespace Go.Proofs.YtpjbfdpblgjmfaaGreatDoor
open Go.RowKit

set_option maxRecDepth 100000 in
set_option maxHeartbeats 8000000 in
theorem funs_exit_a {w0 wr : World} {s : List UInt8} {g : Dg} {n i hb : Nat} (F G : Nat → Value) (Q0 : Exit → Act → World → Prop) (J : Act → World → Prop) (h4 : F 4 = .pointer (some ⟨g.b, 0, none⟩)) (h7 : F 7 = .pointer (some ⟨g.cb, 0, none⟩)) (h8 : F 8 = .int .i64 (n : Nat))
    (hm : Dm w0 s g wr) (hi : ¬ i < n) (hexit : ∀ a', FrK [0, 2, 3, 4, 7, 8] F a' → Q0 (.exit 8) a' wr) :
    Code.wp Tryz.prog ((Tryz.f15.body.map (fun c => (loopsOf c).getD 3 .skip)).getD .skip) (Exit.then J Q0) ⟨#[F 0, G 1, F 2, F 3, .pointer (some ⟨g.b, 0, none⟩), G 5, G 6, .pointer (some ⟨g.cb, 0, none⟩), .int .i64 (n : Nat), G 9, G 10, G 11, G 12, G 13, G 14, G 15, G 16, .int .i64 (i : Nat), G 18, G 19, G 20, G 21, G 22, G 23, G 24, G 25, G 26, G 27, G 28, G 29, G 30, G 31, G 32, G 33, G 34, G 35, G 36, G 37, G 38, G 39, G 40, G 41, G 42, G 43, G 44, G 45, G 46, G 47, G 48, G 49, G 50, G 51, G 52, G 53, G 54, G 55, G 56, G 57, G 58, G 59, G 60, G 61, G 62, G 63, G 64, G 65, G 66, G 67, G 68, G 69, G 70, G 71, G 72, G 73, G 74, G 75, G 76, G 77, G 78, G 79, G 80, G 81, G 82, G 83, G 84, G 85, G 86, G 87, G 88, G 89, G 90, G 91, G 92, G 93, G 94, G 95, G 96, G 97, G 98, G 99, G 100, G 101, G 102, G 103, G 104, G 105, G 106, G 107, G 108, G 109, G 110, G 111, G 112, G 113, G 114, G 115, G 116, G 117, G 118, G 119, G 120, G 121, G 122, G 123, G 124, G 125, G 126, G 127, G 128, G 129, G 130, G 131, G 132, G 133, G 134, G 135, G 136, G 137, G 138, G 139, G 140, G 141, G 142, G 143, G 144, G 145, G 146, G 147, G 148, G 149, G 150, G 151, G 152, G 153, G 154, G 155, G 156, G 157, G 158, G 159, G 160, G 161, G 162, G 163, G 164, G 165, G 166, G 167, G 168, G 169, G 170, G 171, G 172, G 173, G 174, G 175, G 176, G 177, G 178, G 179, G 180, G 181, G 182, G 183, G 184, G 185, G 186, G 187, G 188, G 189, G 190, G 191, G 192, G 193, G 194, G 195], []⟩ wr := by
  have hi1 : ¬ ((i : Int) < (n : Int)) := by omega
  clear hi
  conv => arg 2; whnf
  go_wp2
  refine ⟨rfl, rfl, fun x9 hx9 => ?_⟩
  simp only [List.mem_cons, List.not_mem_nil, or_false] at hx9
  rcases hx9 with rfl | rfl | rfl | rfl | rfl | rfl
  all_goals first
    | rfl
    | exact congrArg some h4.symm
    | exact congrArg some h7.symm
    | exact congrArg some h8.symm
set_option maxRecDepth 100000 in
set_option maxHeartbeats 8000000 in
theorem funs_exit_b {w0 wr : World} {s : List UInt8} {g : Dg} {n i hb : Nat} (F G : Nat → Value) (Q0 : Exit → Act → World → Prop) (J : Act → World → Prop) (h4 : F 4 = .pointer (some ⟨g.b, 0, none⟩)) (h7 : F 7 = .pointer (some ⟨g.cb, 0, none⟩)) (h8 : F 8 = .int .i64 (n : Nat))
    (hm : Dm w0 s g wr) (hi : i < n) (hf : ¬ g.r.fk = 0) (hexit : ∀ a', FrK [0, 2, 3, 4, 7, 8] F a' → Q0 (.exit 8) a' wr) :
    Code.wp Tryz.prog ((Tryz.f15.body.map (fun c => (loopsOf c).getD 3 .skip)).getD .skip) (Exit.then J Q0) ⟨#[F 0, G 1, F 2, F 3, .pointer (some ⟨g.b, 0, none⟩), G 5, G 6, .pointer (some ⟨g.cb, 0, none⟩), .int .i64 (n : Nat), G 9, G 10, G 11, G 12, G 13, G 14, G 15, G 16, .int .i64 (i : Nat), G 18, G 19, G 20, G 21, G 22, G 23, G 24, G 25, G 26, G 27, G 28, G 29, G 30, G 31, G 32, G 33, G 34, G 35, G 36, G 37, G 38, G 39, G 40, G 41, G 42, G 43, G 44, G 45, G 46, G 47, G 48, G 49, G 50, G 51, G 52, G 53, G 54, G 55, G 56, G 57, G 58, G 59, G 60, G 61, G 62, G 63, G 64, G 65, G 66, G 67, G 68, G 69, G 70, G 71, G 72, G 73, G 74, G 75, G 76, G 77, G 78, G 79, G 80, G 81, G 82, G 83, G 84, G 85, G 86, G 87, G 88, G 89, G 90, G 91, G 92, G 93, G 94, G 95, G 96, G 97, G 98, G 99, G 100, G 101, G 102, G 103, G 104, G 105, G 106, G 107, G 108, G 109, G 110, G 111, G 112, G 113, G 114, G 115, G 116, G 117, G 118, G 119, G 120, G 121, G 122, G 123, G 124, G 125, G 126, G 127, G 128, G 129, G 130, G 131, G 132, G 133, G 134, G 135, G 136, G 137, G 138, G 139, G 140, G 141, G 142, G 143, G 144, G 145, G 146, G 147, G 148, G 149, G 150, G 151, G 152, G 153, G 154, G 155, G 156, G 157, G 158, G 159, G 160, G 161, G 162, G 163, G 164, G 165, G 166, G 167, G 168, G 169, G 170, G 171, G 172, G 173, G 174, G 175, G 176, G 177, G 178, G 179, G 180, G 181, G 182, G 183, G 184, G 185, G 186, G 187, G 188, G 189, G 190, G 191, G 192, G 193, G 194, G 195], []⟩ wr := by
  have hi1 : (i : Int) < (n : Int) := by omega
  have hok := hm.ok
  rw [show decide (g.r.fk = 0) = false by simp [hf]] at hok
  unfold ptrV at hok
  clear hi
  conv => arg 2; whnf
  go_wp2_with (go_at_call 34; refine hok.mono ?_; clear hok; rintro e wr ⟨rfl, rfl⟩; dsimp only)
  refine ⟨rfl, rfl, fun x9 hx9 => ?_⟩
  simp only [List.mem_cons, List.not_mem_nil, or_false] at hx9
  rcases hx9 with rfl | rfl | rfl | rfl | rfl | rfl
  all_goals first
    | rfl
    | exact congrArg some h4.symm
    | exact congrArg some h7.symm
    | exact congrArg some h8.symm
set_option maxRecDepth 100000 in
set_option maxHeartbeats 8000000 in
theorem funs_round {w0 wr : World} {s : List UInt8} {g : Dg} {n i k : Nat} {fa fb : Nat} {l : List Cd.Ins} {r1 r2 r3 r4 : Cd.Rd} (F G : Nat → Value) (Q0 : Exit → Act → World → Prop) (hQ0 : ∀ c a a' w, a.defers = a'.defers → Q0 (.panic c) a w → Q0 (.panic c) a' w) (h4 : F 4 = .pointer (some ⟨g.b, 0, none⟩)) (h7 : F 7 = .pointer (some ⟨g.cb, 0, none⟩)) (h8 : F 8 = .int .i64 (n : Nat))
    (hs : s.length ≤ 4000000) (hm : Dm w0 s g wr) (hY : g.Y = fun _ => False) (hi : i < n) (hn : n ≤ 65535) (hf : g.r.fk = 0) (hol : g.fs.length ≤ i) (hfa : g.r.num s 2 = (fa, r1)) (hfb : r1.num s 2 = (fb, r2)) (hk : r2.num s 2 = (k, r3)) (hil : r3.insL s k = (l, r4)) :
    Code.wp Tryz.prog ((Tryz.f15.body.map (fun c => (loopsOf c).getD 3 .skip)).getD .skip) (Exit.then (fun a' w' => FrK [0, 2, 3, 4, 7, 8] F a' ∧ a'.tmps[17]? = some (.int .i64 ((i : Int) + 1)) ∧ ∃ X D v u, Dm w0 s { g with r := r4, X := X, D := D, Y := fun _ => False, vf := v, fs := g.fs ++ [(u, ⟨(fa : Int), (fb : Int), l⟩)] } w') Q0) ⟨#[F 0, G 1, F 2, F 3, .pointer (some ⟨g.b, 0, none⟩), G 5, G 6, .pointer (some ⟨g.cb, 0, none⟩), .int .i64 (n : Nat), G 9, G 10, G 11, G 12, G 13, G 14, G 15, G 16, .int .i64 (i : Nat), G 18, G 19, G 20, G 21, G 22, G 23, G 24, G 25, G 26, G 27, G 28, G 29, G 30, G 31, G 32, G 33, G 34, G 35, G 36, G 37, G 38, G 39, G 40, G 41, G 42, G 43, G 44, G 45, G 46, G 47, G 48, G 49, G 50, G 51, G 52, G 53, G 54, G 55, G 56, G 57, G 58, G 59, G 60, G 61, G 62, G 63, G 64, G 65, G 66, G 67, G 68, G 69, G 70, G 71, G 72, G 73, G 74, G 75, G 76, G 77, G 78, G 79, G 80, G 81, G 82, G 83, G 84, G 85, G 86, G 87, G 88, G 89, G 90, G 91, G 92, G 93, G 94, G 95, G 96, G 97, G 98, G 99, G 100, G 101, G 102, G 103, G 104, G 105, G 106, G 107, G 108, G 109, G 110, G 111, G 112, G 113, G 114, G 115, G 116, G 117, G 118, G 119, G 120, G 121, G 122, G 123, G 124, G 125, G 126, G 127, G 128, G 129, G 130, G 131, G 132, G 133, G 134, G 135, G 136, G 137, G 138, G 139, G 140, G 141, G 142, G 143, G 144, G 145, G 146, G 147, G 148, G 149, G 150, G 151, G 152, G 153, G 154, G 155, G 156, G 157, G 158, G 159, G 160, G 161, G 162, G 163, G 164, G 165, G 166, G 167, G 168, G 169, G 170, G 171, G 172, G 173, G 174, G 175, G 176, G 177, G 178, G 179, G 180, G 181, G 182, G 183, G 184, G 185, G 186, G 187, G 188, G 189, G 190, G 191, G 192, G 193, G 194, G 195], []⟩ wr := by
  have hi1 : (i : Int) < (n : Int) := by omega
  have hw : IntKind.i64.wrap ((i : Int) + 1) = (i : Int) + 1 := IntWalk.i64_in _ (by omega)
  have hok := hm.ok
  rw [show decide (g.r.fk = 0) = true by simp [hf]] at hok
  unfold ptrV at hok
  replace hY := hid hY
  have hk256 : k < 65536 := by have := Cd.num_two_lt s r2; rw [hk] at this; exact this
  replace hfa := hid hfa
  replace hfb := hid hfb
  replace hk := hid hk
  replace hil := hid hil
  conv => arg 2; whnf
  go_upto_region 41 with (go_at_call 34; refine hok.mono ?_; clear hok; rintro e wr ⟨rfl, rfl⟩; dsimp only)
  have hst0 : Sst 85 [.int .i64 0, .int .i64 0] 123 4 w0 s g wr.heap.size (.slice none 0 0) 0 [] (wr.alloc (.cells #[.int .i64 0, .int .i64 0, .slice none 0 0] 85)) := hm.begin hY.out (by rw [World.alloc_heap_new]; rfl) (Ch.alloc _ _ _)
  obtain ⟨hb, hhb⟩ : ∃ hb, wr.heap.size = hb := ⟨_, rfl⟩
  obtain ⟨W0, hW0⟩ : ∃ W0, wr.alloc (.cells #[.int .i64 0, .int .i64 0, .slice none 0 0] 85) = W0 := ⟨_, rfl⟩
  rw [hW0, hhb] at hst0 ⊢
  clear hW0 hhb hm
  have hn1 := hst0.m.num hs 2 (by omega)
  unfold ptrV at hn1
  dsimp only at hn1
  rw [sgn_two, hfa.out] at hn1
  go_upto_region 42 with (go_at_call 33; refine hn1.mono ?_; clear hn1; rintro e w1 ⟨rfl, hm1, hc1⟩; have hst1 := hst0.read hm1 hc1; have hb1 := hst1.b; have cc : w1.cell? ⟨hb, 0, none⟩ = some (.int .i64 0) := (by simp [World.cell?, hb1]); have cf : w1.frozen? ⟨hb, 0, none⟩ = false := (by simp [World.frozen?, hb1]); clear hm1 hb1; dsimp only)
  have hst2 := hst1.field 0 (by simp) (.int .i64 (fa : Int))
  rw [show ([.int .i64 0, .int .i64 0] : List Value).set 0 (.int .i64 (fa : Int)) = [.int .i64 (fa : Int), .int .i64 0] from rfl] at hst2
  clear hst0 hst1 cc cf
  obtain ⟨W2, hW2⟩ : ∃ W2, w1.setCell ⟨hb, 0, none⟩ (.int .i64 (fa : Int)) = W2 := ⟨_, rfl⟩
  rw [hW2] at hst2 ⊢
  clear hW2
  have hn2 := hst2.m.num hs 2 (by omega)
  unfold ptrV at hn2
  dsimp only at hn2
  rw [sgn_two, hfb.out] at hn2
  go_upto_region 43 with (go_at_call 33; refine hn2.mono ?_; clear hn2; rintro e w3 ⟨rfl, hm3, hc3⟩; have hst3 := hst2.read hm3 hc3; have hb3 := hst3.b; have cc : w3.cell? ⟨hb, 1, none⟩ = some (.int .i64 0) := (by simp [World.cell?, hb3]); have cf : w3.frozen? ⟨hb, 1, none⟩ = false := (by simp [World.frozen?, hb3]); clear hm3 hb3; dsimp only)
  have hst5 := hst3.field 1 (by simp) (.int .i64 (fb : Int))
  rw [show ([.int .i64 (fa : Int), .int .i64 0] : List Value).set 1 (.int .i64 (fb : Int)) = [.int .i64 (fa : Int), .int .i64 (fb : Int)] from rfl] at hst5
  clear hst2 hst3 cc cf
  obtain ⟨W4, hW4⟩ : ∃ W4, w3.setCell ⟨hb, 1, none⟩ (.int .i64 (fb : Int)) = W4 := ⟨_, rfl⟩
  rw [hW4] at hst5 ⊢
  clear hW4
  have hn3 := hst5.m.num hs 2 (by omega)
  unfold ptrV at hn3
  dsimp only at hn3
  rw [sgn_two, hk.out] at hn3
  go_wp2_with (go_at_call 33; refine hn3.mono ?_; clear hn3; rintro e w6 ⟨rfl, hm6, hc6⟩; have hst6 := hst5.read hm6 hc6; clear hm6; dsimp only)
  refine inss_loop2 (W := w6) (g := { g with r := r3 }) _ _ rfl rfl rfl rfl rfl rfl (fun c9 a9 a8 w9 hd9 h9 => hQ0 c9 a9 a8 w9 hd9 h9) hs (by omega) hst6 ?_
  intro a4 w4 u hf4 hst4
  obtain ⟨G, rfl, hG⟩ := act_open hf4.sz hf4.df
  have g0 : G 0 = F 0 := hG 0 _ (hf4.k 0 (by simp))
  have g2 : G 2 = F 2 := hG 2 _ (hf4.k 2 (by simp))
  have g3 : G 3 = F 3 := hG 3 _ (hf4.k 3 (by simp))
  have g4 : G 4 = .pointer (some ⟨g.b, 0, none⟩) := hG 4 _ (hf4.k 4 (by simp))
  have g7 : G 7 = .pointer (some ⟨g.cb, 0, none⟩) := hG 7 _ (hf4.k 7 (by simp))
  have g8 : G 8 = .int .i64 (n : Nat) := hG 8 _ (hf4.k 8 (by simp))
  have g17 : G 17 = .int .i64 (i : Nat) := hG 17 _ (hf4.k 17 (by simp))
  have g18 : G 18 = .pointer (some ⟨hb, 0, none⟩) := hG 18 _ (hf4.k 18 (by simp))
  have g19 : G 19 = .int .i64 (k : Nat) := hG 19 _ (hf4.k 19 (by simp))
  rw [g0, g2, g3, g4, g7, g8, g17, g18, g19]
  clear hG hf4
  dsimp only at hst4
  rw [hil.out] at hst4
  have hcb4 : w4.heap[g.cb]? = some (.cells #[.string ⟨g.sh.toArray⟩, g.vo, g.vh, g.vf] 38 (0, 0)) := hst4.m.c
  have hr4 : w4.ownsRow 0 85 3 g.vf g.fs.length (g.fs.flatMap funC) := hst4.m.rf
  have hne4 : g.vf.ownBlock ≠ some g.cb := fun e => by have := hst4.m.own.dj 4 1 g.cb e rfl; omega
  obtain ⟨va, vc, hvo, _⟩ := row_slice hr4
  obtain ⟨ua, uc, hu, _⟩ := row_slice hst4.r
  have c4 : w4.cell? ⟨g.cb, 3, none⟩ = some (.slice va g.fs.length vc) := by simp [World.cell?, hcb4, hvo]
  have hb4 := hst4.b
  have k0 : w4.cell? ⟨hb, 0, none⟩ = some (.int .i64 (fa : Int)) := by simp [World.cell?, hb4]
  have k1 : w4.cell? ⟨hb, 1, none⟩ = some (.int .i64 (fb : Int)) := by simp [World.cell?, hb4]
  have k2 : w4.cell? ⟨hb, 2, none⟩ = some (.slice ua l.length uc) := by simp [World.cell?, hb4, hu]
  have hr4s := hr4
  rw [hvo] at hr4s
  have hrA : (w4.alloc (.cells #[.int .i64 (fa : Int), .int .i64 (fb : Int), .slice ua l.length uc] 85)).ownsRow 0 85 3 (.slice va g.fs.length vc) g.fs.length (g.fs.flatMap funC) := ownsRow_keep hr4s (fun k hk => (Ch.alloc (fun _ => False) w4 _).same k (ownsRow_lt hr4s hk) (fun h => h))
  have hAc := new_cells w4 [.int .i64 (fa : Int), .int .i64 (fb : Int), .slice ua l.length uc] 85
  have hcbl : g.cb < w4.heap.size := hst4.m.own.lt 1 g.cb rfl
  replace hvo := hid hvo
  replace hu := hid hu
  replace hst4 := hid hst4
  clear hr4 hb4
  go_upto_region 39 with (at_builtin; go_must (refine list_append rfl (.tmp 164) (.tmp 166) 36 rfl 85 (.agg #[.int .i64 0, .int .i64 0, .slice none 0 0]) 3 40 Tryz.underlying36 Tryz.infoFun rfl (by decide) (.slice va g.fs.length vc) g.fs.length (g.fs.flatMap funC) rfl hrA ⟨w4.heap.size, 0, none⟩ 1 1 [.int .i64 (fa : Int), .int .i64 (fb : Int), .slice ua l.length uc] rfl rfl hAc (by simp [Value.oneCell']) (by unfold maxLen; omega) (by omega) ?_); intro v5 w5 hrow5 hgrow5 hblk5; obtain ⟨g5, c5, rfl⟩ := ownsRow_succ hrow5; obtain ⟨d5, df5⟩ := cb_after (i := 3) hcb4 hcbl (show (Value.slice va g.fs.length vc).ownBlock ≠ some g.cb by rw [← hvo.out]; exact hne4) hgrow5 rfl)
  have hfin := Dm.endFun hst4.out (v' := .slice (some ⟨g5, 0, none⟩) (g.fs.length + 1) c5) (w1 := w5) (by rw [hu.out]; exact hrow5) (show Ch (fun k => g.vf.ownBlock = some k) w4 w5 by rw [hvo.out]; exact app_ch (Ch.alloc _ _ _) hgrow5) (show ∀ k, _ → g.vf.ownBlock = some k ∨ _ by rw [hvo.out]; exact app_more (Ch.alloc _ w4 _) hblk5)
  go_wp2
  refine ⟨⟨rfl, rfl, fun x9 hx9 => ?_⟩, _, _, _, _, hfin⟩
  simp only [List.mem_cons, List.not_mem_nil, or_false] at hx9
  rcases hx9 with rfl | rfl | rfl | rfl | rfl | rfl
  all_goals first
    | rfl
    | exact congrArg some h4.symm
    | exact congrArg some h7.symm
    | exact congrArg some h8.symm
theorem funs_loop {w0 W : World} {s : List UInt8} {g : Dg} {n : Nat} (F : Nat → Value) (Q0 : Exit → Act → World → Prop) (hQ0 : ∀ c a a' w, a.defers = a'.defers → Q0 (.panic c) a w → Q0 (.panic c) a' w) (h4 : F 4 = .pointer (some ⟨g.b, 0, none⟩)) (h7 : F 7 = .pointer (some ⟨g.cb, 0, none⟩)) (h8 : F 8 = .int .i64 (n : Nat)) (hs : s.length ≤ 4000000) (hn : n ≤ 65535) (hm : Dm w0 s g W) (hl0 : g.fs = []) (hY : g.Y = fun _ => False) (a0 : Act) (hfr : FrK [0, 2, 3, 4, 7, 8] F a0) (h9 : a0.tmps[17]? = some (.int .i64 0))
    (hexit : ∀ a' w' v l X D, FrK [0, 2, 3, 4, 7, 8] F a' → l.map Prod.snd = (g.r.funsL s n).1 → Dm w0 s { g with r := (g.r.funsL s n).2, X := X, D := D, Y := fun _ => False, vf := v, fs := l } w' → Q0 (.exit 8) a' w') : Code.wp Tryz.prog (Code.loop ((Tryz.f15.body.map (fun c => (loopsOf c).getD 3 .skip)).getD .skip)) Q0 a0 W := by
  refine wp_loop (fun a w => ∃ (i : Nat) (r : Cd.Rd) (v : Value) (l : List (Value × Cd.Fun)) (X D : Nat → Prop), i ≤ n ∧ l.length ≤ i ∧ FrK [0, 2, 3, 4, 7, 8] F a ∧ a.tmps[17]? = some (.int .i64 (i : Nat)) ∧ Dm w0 s { g with r := r, X := X, D := D, Y := fun _ => False, vf := v, fs := l } w ∧ g.r.funsL s n = (l.map Prod.snd ++ (r.funsL s (n - i)).1, (r.funsL s (n - i)).2)) (fun a _ => n - (intOf (a.tmps.getD 17 undef)).toNat) ⟨0, g.r, g.vf, [], g.X, g.D, Nat.zero_le _, Nat.le_refl _, hfr, h9, by rw [← hl0, ← hY]; exact hm, by simp⟩ ?_
  rintro a w ⟨i, r, v, l, X, D, hi, hol, hf, hi9, hd, hrel⟩
  have hmu : (intOf (a.tmps.getD 17 undef)).toNat = i := by simp [Array.getD_eq_getD_getElem?, hi9, intOf]
  rw [hmu]
  obtain ⟨G, rfl, hG⟩ := act_open hf.sz hf.df
  have hout : (¬ i < n ∨ ¬ r.fk = 0) → ∀ a', FrK [0, 2, 3, 4, 7, 8] F a' → Q0 (.exit 8) a' w := fun hw a' hk => by
    have e : r.funsL s (n - i) = ([], r) := by
      rcases hw with e | e
      · rw [show n - i = 0 by omega]; rfl
      · cases hni : n - i with
        | zero => rfl
        | succ j => simp [Cd.Rd.funsL, e]
    rw [e] at hrel
    refine hexit a' w v l X D hk (by rw [hrel]; simp) ?_
    rw [hrel]
    simpa using hd
  have f0 : G 0 = F 0 := hG 0 _ (hf.k 0 (by simp))
  have f2 : G 2 = F 2 := hG 2 _ (hf.k 2 (by simp))
  have f3 : G 3 = F 3 := hG 3 _ (hf.k 3 (by simp))
  have f4 : G 4 = F 4 := hG 4 _ (hf.k 4 (by simp))
  have f7 : G 7 = F 7 := hG 7 _ (hf.k 7 (by simp))
  have f8 : G 8 = F 8 := hG 8 _ (hf.k 8 (by simp))
  have fi : G 17 = .int .i64 (i : Nat) := hG 17 _ hi9
  rw [h4] at f4
  rw [h7] at f7
  rw [h8] at f8
  rw [f0, f2, f3, f4, f7, f8, fi]
  clear hG hf hi9
  by_cases hlt : i < n
  · by_cases h0 : r.fk = 0
    · obtain ⟨fa, r1, hfa⟩ : ∃ fa r1, r.num s 2 = (fa, r1) := ⟨_, _, rfl⟩
      obtain ⟨fb, r2, hfb⟩ : ∃ fb r2, r1.num s 2 = (fb, r2) := ⟨_, _, rfl⟩
      obtain ⟨k, r3, hk⟩ : ∃ k r3, r2.num s 2 = (k, r3) := ⟨_, _, rfl⟩
      obtain ⟨l9, r4, hil⟩ : ∃ l9 r4, r3.insL s k = (l9, r4) := ⟨_, _, rfl⟩
      have hstep : g.r.funsL s n = ((l.map Prod.snd ++ [⟨(fa : Int), (fb : Int), l9⟩]) ++ ((r4).funsL s (n - (i + 1))).1, ((r4).funsL s (n - (i + 1))).2) := by
        rw [hrel, show n - i = (n - (i + 1)) + 1 by omega]
        simp only [Cd.Rd.funsL, if_pos h0, Cd.Rd.fn, hfa, hfb, hk, hil]
        simp
      refine wp_mono (funs_round (g := { g with r := r, X := X, D := D, Y := fun _ => False, vf := v, fs := l }) F G Q0 hQ0 h4 h7 h8 hs hd rfl hlt hn h0 hol hfa hfb hk hil) ?_
      intro e a' w' h
      have fin : (FrK [0, 2, 3, 4, 7, 8] F a' ∧ a'.tmps[17]? = some (.int .i64 ((i : Int) + 1)) ∧ ∃ X' D' v' u, Dm w0 s { ({ g with r := r, X := X, D := D, Y := fun _ => False, vf := v, fs := l } : Dg) with r := r4, X := X', D := D', Y := fun _ => False, vf := v', fs := l ++ [(u, ⟨(fa : Int), (fb : Int), l9⟩)] } w') → (∃ (i : Nat) (r : Cd.Rd) (v : Value) (l : List (Value × Cd.Fun)) (X D : Nat → Prop), i ≤ n ∧ l.length ≤ i ∧ FrK [0, 2, 3, 4, 7, 8] F a' ∧ a'.tmps[17]? = some (.int .i64 (i : Nat)) ∧ Dm w0 s { g with r := r, X := X, D := D, Y := fun _ => False, vf := v, fs := l } w' ∧ g.r.funsL s n = (l.map Prod.snd ++ (r.funsL s (n - i)).1, (r.funsL s (n - i)).2)) ∧ n - (intOf (a'.tmps.getD 17 undef)).toNat < n - i := by
        rintro ⟨b1, b2, X', D', v', u, b3⟩
        refine ⟨⟨i + 1, r4, v', l ++ [(u, ⟨(fa : Int), (fb : Int), l9⟩)], X', D', by omega, by simp; omega, b1, by simpa using b2, b3, by rw [hstep]; simp⟩, ?_⟩
        simp only [Array.getD_eq_getD_getElem?, b2, Option.getD_some, intOf]
        omega
      cases e <;> first | exact fin h | exact h
    · exact funs_exit_b (hb := 0) (g := { g with r := r, X := X, D := D, Y := fun _ => False, vf := v, fs := l }) F G Q0 _ h4 h7 h8 hd hlt h0 (hout (.inr h0))
  · exact funs_exit_a (hb := 0) (g := { g with r := r, X := X, D := D, Y := fun _ => False, vf := v, fs := l }) F G Q0 _ h4 h7 h8 hd hlt (hout (.inl hlt))
end Go.Proofs.YtpjbfdpblgjmfaaGreatDoor
