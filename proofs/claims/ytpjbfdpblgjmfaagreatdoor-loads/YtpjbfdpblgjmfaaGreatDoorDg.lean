/-
  Decode's loop over a handler's operations.
-/
import Derived.Test.YtpjbfdpblgjmfaaGreatDoorMD2
set_option linter.unusedVariables false
set_option linter.unusedSimpArgs false
namespace Go.Proofs.YtpjbfdpblgjmfaaGreatDoor
open Go.RowKit

set_option maxRecDepth 100000 in
set_option maxHeartbeats 8000000 in
theorem ints_exit_a {wr : World} {g : Dg} {n i hb : Nat} (F G : Nat → Value) (Q0 : Exit → Act → World → Prop) (J : Act → World → Prop) (h4 : F 4 = .pointer (some ⟨g.b, 0, none⟩)) (h14 : F 14 = .pointer (some ⟨hb, 0, none⟩)) (h15 : F 15 = .int .i64 (n : Nat))
    (hok0 : Calls Tryz.prog 34 #[ptrV g.b] wr fun e w' => e = .returned (.bool (decide (g.r.fk = 0))) ∧ w' = wr) (hi : ¬ i < n) (hexit : ∀ a', FrK [0, 2, 3, 4, 7, 8, 13, 14, 15] F a' → Q0 (.exit 6) a' wr) :
    Code.wp Tryz.prog ((firstLoop ((Tryz.f15.body.map (fun c => (loopsOf c).getD 2 .skip)).getD .skip)).getD .skip) (Exit.then J Q0) ⟨#[F 0, G 1, F 2, F 3, .pointer (some ⟨g.b, 0, none⟩), G 5, G 6, F 7, F 8, G 9, G 10, G 11, G 12, F 13, .pointer (some ⟨hb, 0, none⟩), .int .i64 (n : Nat), .int .i64 (i : Nat), G 17, G 18, G 19, G 20, G 21, G 22, G 23, G 24, G 25, G 26, G 27, G 28, G 29, G 30, G 31, G 32, G 33, G 34, G 35, G 36, G 37, G 38, G 39, G 40, G 41, G 42, G 43, G 44, G 45, G 46, G 47, G 48, G 49, G 50, G 51, G 52, G 53, G 54, G 55, G 56, G 57, G 58, G 59, G 60, G 61, G 62, G 63, G 64, G 65, G 66, G 67, G 68, G 69, G 70, G 71, G 72, G 73, G 74, G 75, G 76, G 77, G 78, G 79, G 80, G 81, G 82, G 83, G 84, G 85, G 86, G 87, G 88, G 89, G 90, G 91, G 92, G 93, G 94, G 95, G 96, G 97, G 98, G 99, G 100, G 101, G 102, G 103, G 104, G 105, G 106, G 107, G 108, G 109, G 110, G 111, G 112, G 113, G 114, G 115, G 116, G 117, G 118, G 119, G 120, G 121, G 122, G 123, G 124, G 125, G 126, G 127, G 128, G 129, G 130, G 131, G 132, G 133, G 134, G 135, G 136, G 137, G 138, G 139, G 140, G 141, G 142, G 143, G 144, G 145, G 146, G 147, G 148, G 149, G 150, G 151, G 152, G 153, G 154, G 155, G 156, G 157, G 158, G 159, G 160, G 161, G 162, G 163, G 164, G 165, G 166, G 167, G 168, G 169, G 170, G 171, G 172, G 173, G 174, G 175, G 176, G 177, G 178, G 179, G 180, G 181, G 182, G 183, G 184, G 185, G 186, G 187, G 188, G 189, G 190, G 191, G 192, G 193, G 194, G 195], []⟩ wr := by
  have hi1 : ¬ ((i : Int) < (n : Int)) := by omega
  clear hi hok0
  conv => arg 2; whnf
  go_wp2
  refine ⟨rfl, rfl, fun x9 hx9 => ?_⟩
  simp only [List.mem_cons, List.not_mem_nil, or_false] at hx9
  rcases hx9 with rfl | rfl | rfl | rfl | rfl | rfl | rfl | rfl | rfl
  all_goals first
    | rfl
    | exact congrArg some h4.symm
    | exact congrArg some h14.symm
    | exact congrArg some h15.symm
set_option maxRecDepth 100000 in
set_option maxHeartbeats 8000000 in
theorem ints_exit_b {wr : World} {g : Dg} {n i hb : Nat} (F G : Nat → Value) (Q0 : Exit → Act → World → Prop) (J : Act → World → Prop) (h4 : F 4 = .pointer (some ⟨g.b, 0, none⟩)) (h14 : F 14 = .pointer (some ⟨hb, 0, none⟩)) (h15 : F 15 = .int .i64 (n : Nat))
    (hok0 : Calls Tryz.prog 34 #[ptrV g.b] wr fun e w' => e = .returned (.bool (decide (g.r.fk = 0))) ∧ w' = wr) (hi : i < n) (hf : ¬ g.r.fk = 0) (hexit : ∀ a', FrK [0, 2, 3, 4, 7, 8, 13, 14, 15] F a' → Q0 (.exit 6) a' wr) :
    Code.wp Tryz.prog ((firstLoop ((Tryz.f15.body.map (fun c => (loopsOf c).getD 2 .skip)).getD .skip)).getD .skip) (Exit.then J Q0) ⟨#[F 0, G 1, F 2, F 3, .pointer (some ⟨g.b, 0, none⟩), G 5, G 6, F 7, F 8, G 9, G 10, G 11, G 12, F 13, .pointer (some ⟨hb, 0, none⟩), .int .i64 (n : Nat), .int .i64 (i : Nat), G 17, G 18, G 19, G 20, G 21, G 22, G 23, G 24, G 25, G 26, G 27, G 28, G 29, G 30, G 31, G 32, G 33, G 34, G 35, G 36, G 37, G 38, G 39, G 40, G 41, G 42, G 43, G 44, G 45, G 46, G 47, G 48, G 49, G 50, G 51, G 52, G 53, G 54, G 55, G 56, G 57, G 58, G 59, G 60, G 61, G 62, G 63, G 64, G 65, G 66, G 67, G 68, G 69, G 70, G 71, G 72, G 73, G 74, G 75, G 76, G 77, G 78, G 79, G 80, G 81, G 82, G 83, G 84, G 85, G 86, G 87, G 88, G 89, G 90, G 91, G 92, G 93, G 94, G 95, G 96, G 97, G 98, G 99, G 100, G 101, G 102, G 103, G 104, G 105, G 106, G 107, G 108, G 109, G 110, G 111, G 112, G 113, G 114, G 115, G 116, G 117, G 118, G 119, G 120, G 121, G 122, G 123, G 124, G 125, G 126, G 127, G 128, G 129, G 130, G 131, G 132, G 133, G 134, G 135, G 136, G 137, G 138, G 139, G 140, G 141, G 142, G 143, G 144, G 145, G 146, G 147, G 148, G 149, G 150, G 151, G 152, G 153, G 154, G 155, G 156, G 157, G 158, G 159, G 160, G 161, G 162, G 163, G 164, G 165, G 166, G 167, G 168, G 169, G 170, G 171, G 172, G 173, G 174, G 175, G 176, G 177, G 178, G 179, G 180, G 181, G 182, G 183, G 184, G 185, G 186, G 187, G 188, G 189, G 190, G 191, G 192, G 193, G 194, G 195], []⟩ wr := by
  have hi1 : (i : Int) < (n : Int) := by omega
  have hok := hok0
  rw [show decide (g.r.fk = 0) = false by simp [hf]] at hok
  unfold ptrV at hok
  clear hi hok0
  conv => arg 2; whnf
  go_wp2_with (go_at_call 34; refine hok.mono ?_; clear hok; rintro e wr ⟨rfl, rfl⟩; dsimp only)
  refine ⟨rfl, rfl, fun x9 hx9 => ?_⟩
  simp only [List.mem_cons, List.not_mem_nil, or_false] at hx9
  rcases hx9 with rfl | rfl | rfl | rfl | rfl | rfl | rfl | rfl | rfl
  all_goals first
    | rfl
    | exact congrArg some h4.symm
    | exact congrArg some h14.symm
    | exact congrArg some h15.symm
theorem sst_cellsi {w0 w : World} {s : List UInt8} {g : Dg} {hb : Nat} {u : Value} {n : Nat} {xs : List Value} {sw : Bool} (h : Sst 121 [.bool sw] 3 1 w0 s g hb u n xs w) : w.cell? ⟨hb, 1, none⟩ = some u ∧ w.frozen? ⟨hb, 1, none⟩ = false := by
  have := h.b
  constructor
  · simp [World.cell?, this]
  · simp [World.frozen?, this]
set_option maxRecDepth 100000 in
set_option maxHeartbeats 8000000 in
theorem ints_round {w0 wr : World} {s : List UInt8} {g : Dg} {n i hb : Nat} {sw : Bool} {u : Value} {l : List Int} {x : Nat} {r1 : Cd.Rd} (F G : Nat → Value) (Q0 : Exit → Act → World → Prop) (hQ0 : ∀ c a a' w, a.defers = a'.defers → Q0 (.panic c) a w → Q0 (.panic c) a' w) (h4 : F 4 = .pointer (some ⟨g.b, 0, none⟩)) (h14 : F 14 = .pointer (some ⟨hb, 0, none⟩)) (h15 : F 15 = .int .i64 (n : Nat))
    (hs : s.length ≤ 4000000) (hst : Sst 121 [.bool sw] 3 1 w0 s g hb u l.length (l.map (Value.int .i64)) wr) (hi : i < n) (hn : n ≤ 65535) (hf : g.r.fk = 0) (hl : l.length ≤ i) (hk : g.r.num s 1 = (x, r1)) :
    Code.wp Tryz.prog ((firstLoop ((Tryz.f15.body.map (fun c => (loopsOf c).getD 2 .skip)).getD .skip)).getD .skip) (Exit.then (fun a' w' => FrK [0, 2, 3, 4, 7, 8, 13, 14, 15] F a' ∧ a'.tmps[16]? = some (.int .i64 ((i : Int) + 1)) ∧ ∃ v, Sst 121 [.bool sw] 3 1 w0 s { g with r := r1 } hb v (l ++ [(x : Int)]).length ((l ++ [(x : Int)]).map (Value.int .i64)) w') Q0) ⟨#[F 0, G 1, F 2, F 3, .pointer (some ⟨g.b, 0, none⟩), G 5, G 6, F 7, F 8, G 9, G 10, G 11, G 12, F 13, .pointer (some ⟨hb, 0, none⟩), .int .i64 (n : Nat), .int .i64 (i : Nat), G 17, G 18, G 19, G 20, G 21, G 22, G 23, G 24, G 25, G 26, G 27, G 28, G 29, G 30, G 31, G 32, G 33, G 34, G 35, G 36, G 37, G 38, G 39, G 40, G 41, G 42, G 43, G 44, G 45, G 46, G 47, G 48, G 49, G 50, G 51, G 52, G 53, G 54, G 55, G 56, G 57, G 58, G 59, G 60, G 61, G 62, G 63, G 64, G 65, G 66, G 67, G 68, G 69, G 70, G 71, G 72, G 73, G 74, G 75, G 76, G 77, G 78, G 79, G 80, G 81, G 82, G 83, G 84, G 85, G 86, G 87, G 88, G 89, G 90, G 91, G 92, G 93, G 94, G 95, G 96, G 97, G 98, G 99, G 100, G 101, G 102, G 103, G 104, G 105, G 106, G 107, G 108, G 109, G 110, G 111, G 112, G 113, G 114, G 115, G 116, G 117, G 118, G 119, G 120, G 121, G 122, G 123, G 124, G 125, G 126, G 127, G 128, G 129, G 130, G 131, G 132, G 133, G 134, G 135, G 136, G 137, G 138, G 139, G 140, G 141, G 142, G 143, G 144, G 145, G 146, G 147, G 148, G 149, G 150, G 151, G 152, G 153, G 154, G 155, G 156, G 157, G 158, G 159, G 160, G 161, G 162, G 163, G 164, G 165, G 166, G 167, G 168, G 169, G 170, G 171, G 172, G 173, G 174, G 175, G 176, G 177, G 178, G 179, G 180, G 181, G 182, G 183, G 184, G 185, G 186, G 187, G 188, G 189, G 190, G 191, G 192, G 193, G 194, G 195], []⟩ wr := by
  have hmx : Tryz.prog.follows .mixedOrders = true := by kernel_rfl
  have hi1 : (i : Int) < (n : Int) := by omega
  have hw : IntKind.i64.wrap ((i : Int) + 1) = (i : Int) + 1 := IntWalk.i64_in _ (by omega)
  have hok := hst.m.ok
  dsimp only at hok
  rw [show decide (g.r.fk = 0) = true by simp [hf]] at hok
  unfold ptrV at hok
  replace hst := hst.quiet (Ch.drew (fun _ => False) wr)
  have hcall := hst.m.num hs 1 (by omega)
  dsimp only at hcall
  rw [sgn_one, hk] at hcall
  unfold ptrV at hcall
  obtain ⟨c0a, c0b⟩ := sst_cellsi hst
  obtain ⟨ua, uc, hu, _⟩ := row_slice hst.r
  rw [hu] at c0a
  replace hu := hid hu
  replace hst := hid hst
  replace hk := hid hk
  conv => arg 2; whnf
  go_upto_region 34 with (go_at_call 34; refine hok.mono ?_; clear hok; rintro e wr ⟨rfl, rfl⟩; dsimp only)
  refine wp_region_held_drew (S := (fun _ => True)) (by kernel_rfl) (by first | trivial | ((try dsimp only); go_keep)) (fun hHeld => ?_)
  refine wpAnyH_take (i := 0) (v := ?vvi2006) rfl (by kernel_rfl) (by kernel_rfl) (by kernel_rfl) (fun c9 a9 w9 h9 => hQ0 c9 (a9.put _ _) a9 w9 (by rfl) h9) (Or.inl ⟨by rfl, ?yyi2006⟩) (by assumption) ?rri2006
  case yyi2006 => (intro w' hSw; (try dsimp only at hSw); go_simp; (try with_reducible rfl))
  try simp only [Act.put, List.setIfInBounds_toArray, List.set_cons_zero, List.set_cons_succ]
  refine wpAnyH_take (i := 2) (v := ?vvi2007) rfl (by kernel_rfl) (by kernel_rfl) (by kernel_rfl) (fun c9 a9 w9 h9 => hQ0 c9 (a9.put _ _) a9 w9 (by rfl) h9) (Or.inl ⟨by rfl, ?yyi2007⟩) (by assumption) ?rri2007
  case yyi2007 => (intro w' hSw; (try dsimp only at hSw); go_simp; (try with_reducible rfl))
  try simp only [Act.put, List.setIfInBounds_toArray, List.set_cons_zero, List.set_cons_succ]
  refine wpAnyH_ready (rs := [1, 3]) (by kernel_rfl) (by simp) (AllReadyH.cons rfl (fun K hK => ?_) (AllReadyH.cons rfl (fun K hK => ?_) AllReadyH.nil))
  · go_simp
    clear hHeld
    refine hK.out _ _ ?hs (fun hHeld => ?_)
    case hs => (first | trivial | ((try dsimp only); go_keep) | ((try dsimp only); simp [*, World.cell?_alloc_some, World.cell?_setCell_far, World.cell?_setCell_other]))
    clear hK K
    try simp only [Act.put, List.setIfInBounds_toArray, List.set_cons_zero, List.set_cons_succ]
    refine wpAnyH_ready (rs := [3]) (by kernel_rfl) (by simp) (AllReadyH.cons rfl (fun K hK => ?_) AllReadyH.nil)
    go_simp
    refine hcall.mono ?_
    clear hcall
    rintro e w1 ⟨rfl, hm1, hc1⟩
    have h1 := hst.out.read hm1 hc1
    obtain ⟨c1a, c1b⟩ := sst_cellsi h1
    rw [hu.out] at c1a
    have hr1 := h1.r
    rw [hu.out] at hr1
    have c2a : (w1.alloc (.cells #[.int .i64 (x : Nat)] 3)).cell? ⟨hb, 1, none⟩ = some (.slice ua l.length uc) := ((Ch.alloc (fun _ => False) w1 _).cell (p := ⟨hb, 1, none⟩) h1.lt (fun e => e)).trans c1a
    have hrA : (w1.alloc (.cells #[.int .i64 (x : Nat)] 3)).ownsRow 0 3 1 (.slice ua l.length uc) l.length (l.map (Value.int .i64)) := ownsRow_keep hr1 (fun k hk => (Ch.alloc (fun _ => False) w1 _).same k (ownsRow_lt hr1 hk) (fun h => h))
    have hAc := new_cells w1 [.int .i64 (x : Nat)] 3
    have hne1 := h1.ne
    have hlt1 := h1.lt
    have hb1 := h1.b
    replace h1 := hid h1
    clear hm1
    dsimp only
    clear hHeld
    refine hK.out _ _ ?hs (fun hHeld => ?_)
    case hs => (first | trivial | ((try dsimp only); go_keep) | ((try dsimp only); simp [*, World.cell?_alloc_some, World.cell?_setCell_far, World.cell?_setCell_other]))
    clear hK K
    try simp only [Act.put, List.setIfInBounds_toArray, List.set_cons_zero, List.set_cons_succ]
    refine wpAnyH_ready (rs := [4]) (by kernel_rfl) (by simp) (AllReadyH.cons rfl (fun K hK => ?_) AllReadyH.nil)
    go_simp
    clear hHeld
    refine hK.out _ _ ?hs (fun hHeld => ?_)
    case hs => (first | trivial | ((try dsimp only); go_keep) | ((try dsimp only); simp [*, World.cell?_alloc_some, World.cell?_setCell_far, World.cell?_setCell_other]))
    clear hK K
    try simp only [Act.put, List.setIfInBounds_toArray, List.set_cons_zero, List.set_cons_succ]
    refine wpAnyH_ready (rs := [5]) (by kernel_rfl) (by simp) (AllReadyH.cons rfl (fun K hK => ?_) AllReadyH.nil)
    refine step_append rfl (.tmp 116) (.tmp 119) 87 rfl 3 (.int .i64 0) 1 8 Tryz.underlying87 Tryz.infoInt rfl (by decide) (.slice ua l.length uc) l.length (l.map (Value.int .i64)) (by simp [Act.eval]) hrA ⟨w1.heap.size, 0, none⟩ 1 1 [.int .i64 (x : Nat)] (by simp [Act.eval]) rfl hAc (by simp [Value.oneCell']) (by unfold maxLen; omega) (by omega) ?_
    intro v5 w5 hrow5 hgrow5 hblk5
    obtain ⟨g5, c5, rfl⟩ := ownsRow_succ hrow5
    obtain ⟨d5, df5⟩ := cb_after (i := 1) hb1 hlt1 (show (Value.slice ua l.length uc).ownBlock ≠ some hb by rw [← hu.out]; exact hne1) hgrow5 rfl
    clear hHeld
    refine hK.out _ _ ?hs (fun hHeld => ?_)
    case hs => (first | trivial | ((try dsimp only); go_keep) | ((try dsimp only); simp [*, World.cell?_alloc_some, World.cell?_setCell_far, World.cell?_setCell_other]))
    clear hK K
    try simp only [Act.put, List.setIfInBounds_toArray, List.set_cons_zero, List.set_cons_succ]
    refine wpAnyH_take (i := 6) (v := ?vvi2008) rfl (by kernel_rfl) (by kernel_rfl) (by kernel_rfl) (fun c9 a9 w9 h9 => hQ0 c9 (a9.put _ _) a9 w9 (by rfl) h9) (Or.inl ⟨by rfl, ?yyi2008⟩) (by assumption) ?rri2008
    case yyi2008 => (intro w' hSw; (try dsimp only at hSw); go_simp; (try with_reducible rfl))
    try simp only [Act.put, List.setIfInBounds_toArray, List.set_cons_zero, List.set_cons_succ]
    refine wpAnyH_ready (rs := [7]) (by kernel_rfl) (by simp) (AllReadyH.cons rfl (fun K hK => ?_) AllReadyH.nil)
    go_simp
    clear hHeld
    refine hK.out _ _ ?hs (fun hHeld => ?_)
    case hs => (first | trivial | ((try dsimp only); go_keep) | ((try dsimp only); simp [*, World.cell?_alloc_some, World.cell?_setCell_far, World.cell?_setCell_other]))
    clear hK K
    try simp only [Act.put, List.setIfInBounds_toArray, List.set_cons_zero, List.set_cons_succ]
    refine wpAnyH_done (by kernel_rfl) ?_ _
    clear hHeld
    have hfin := h1.out.push (v' := .slice (some ⟨g5, 0, none⟩) (l.length + 1) c5) (w1 := w5) hrow5 (by rw [hu.out]; exact app_ch (Ch.alloc _ _ _) hgrow5) (by rw [hu.out]; exact app_more (Ch.alloc _ w1 _) hblk5)
    go_wp2
    refine ⟨⟨rfl, rfl, fun x9 hx9 => ?_⟩, _, (by simpa using hfin)⟩
    simp only [List.mem_cons, List.not_mem_nil, or_false] at hx9
    rcases hx9 with rfl | rfl | rfl | rfl | rfl | rfl | rfl | rfl | rfl
    all_goals first
      | rfl
      | exact congrArg some h4.symm
      | exact congrArg some h14.symm
      | exact congrArg some h15.symm
  · go_simp
    refine hcall.mono ?_
    clear hcall
    rintro e w1 ⟨rfl, hm1, hc1⟩
    have h1 := hst.out.read hm1 hc1
    obtain ⟨c1a, c1b⟩ := sst_cellsi h1
    rw [hu.out] at c1a
    have hr1 := h1.r
    rw [hu.out] at hr1
    have c2a : (w1.alloc (.cells #[.int .i64 (x : Nat)] 3)).cell? ⟨hb, 1, none⟩ = some (.slice ua l.length uc) := ((Ch.alloc (fun _ => False) w1 _).cell (p := ⟨hb, 1, none⟩) h1.lt (fun e => e)).trans c1a
    have hrA : (w1.alloc (.cells #[.int .i64 (x : Nat)] 3)).ownsRow 0 3 1 (.slice ua l.length uc) l.length (l.map (Value.int .i64)) := ownsRow_keep hr1 (fun k hk => (Ch.alloc (fun _ => False) w1 _).same k (ownsRow_lt hr1 hk) (fun h => h))
    have hAc := new_cells w1 [.int .i64 (x : Nat)] 3
    have hne1 := h1.ne
    have hlt1 := h1.lt
    have hb1 := h1.b
    replace h1 := hid h1
    clear hm1
    dsimp only
    clear hHeld
    refine hK.out _ _ ?hs (fun hHeld => ?_)
    case hs => (first | trivial | ((try dsimp only); go_keep) | ((try dsimp only); simp [*, World.cell?_alloc_some, World.cell?_setCell_far, World.cell?_setCell_other]))
    clear hK K
    try simp only [Act.put, List.setIfInBounds_toArray, List.set_cons_zero, List.set_cons_succ]
    refine wpAnyH_ready (rs := [1, 4]) (by kernel_rfl) (by simp) (AllReadyH.cons rfl (fun K hK => ?_) (AllReadyH.cons rfl (fun K hK => ?_) AllReadyH.nil))
    · go_simp
      clear hHeld
      refine hK.out _ _ ?hs (fun hHeld => ?_)
      case hs => (first | trivial | ((try dsimp only); go_keep) | ((try dsimp only); simp [*, World.cell?_alloc_some, World.cell?_setCell_far, World.cell?_setCell_other]))
      clear hK K
      try simp only [Act.put, List.setIfInBounds_toArray, List.set_cons_zero, List.set_cons_succ]
      refine wpAnyH_ready (rs := [4]) (by kernel_rfl) (by simp) (AllReadyH.cons rfl (fun K hK => ?_) AllReadyH.nil)
      go_simp
      clear hHeld
      refine hK.out _ _ ?hs (fun hHeld => ?_)
      case hs => (first | trivial | ((try dsimp only); go_keep) | ((try dsimp only); simp [*, World.cell?_alloc_some, World.cell?_setCell_far, World.cell?_setCell_other]))
      clear hK K
      try simp only [Act.put, List.setIfInBounds_toArray, List.set_cons_zero, List.set_cons_succ]
      refine wpAnyH_ready (rs := [5]) (by kernel_rfl) (by simp) (AllReadyH.cons rfl (fun K hK => ?_) AllReadyH.nil)
      refine step_append rfl (.tmp 116) (.tmp 119) 87 rfl 3 (.int .i64 0) 1 8 Tryz.underlying87 Tryz.infoInt rfl (by decide) (.slice ua l.length uc) l.length (l.map (Value.int .i64)) (by simp [Act.eval]) hrA ⟨w1.heap.size, 0, none⟩ 1 1 [.int .i64 (x : Nat)] (by simp [Act.eval]) rfl hAc (by simp [Value.oneCell']) (by unfold maxLen; omega) (by omega) ?_
      intro v5 w5 hrow5 hgrow5 hblk5
      obtain ⟨g5, c5, rfl⟩ := ownsRow_succ hrow5
      obtain ⟨d5, df5⟩ := cb_after (i := 1) hb1 hlt1 (show (Value.slice ua l.length uc).ownBlock ≠ some hb by rw [← hu.out]; exact hne1) hgrow5 rfl
      clear hHeld
      refine hK.out _ _ ?hs (fun hHeld => ?_)
      case hs => (first | trivial | ((try dsimp only); go_keep) | ((try dsimp only); simp [*, World.cell?_alloc_some, World.cell?_setCell_far, World.cell?_setCell_other]))
      clear hK K
      try simp only [Act.put, List.setIfInBounds_toArray, List.set_cons_zero, List.set_cons_succ]
      refine wpAnyH_take (i := 6) (v := ?vvi2009) rfl (by kernel_rfl) (by kernel_rfl) (by kernel_rfl) (fun c9 a9 w9 h9 => hQ0 c9 (a9.put _ _) a9 w9 (by rfl) h9) (Or.inl ⟨by rfl, ?yyi2009⟩) (by assumption) ?rri2009
      case yyi2009 => (intro w' hSw; (try dsimp only at hSw); go_simp; (try with_reducible rfl))
      try simp only [Act.put, List.setIfInBounds_toArray, List.set_cons_zero, List.set_cons_succ]
      refine wpAnyH_ready (rs := [7]) (by kernel_rfl) (by simp) (AllReadyH.cons rfl (fun K hK => ?_) AllReadyH.nil)
      go_simp
      clear hHeld
      refine hK.out _ _ ?hs (fun hHeld => ?_)
      case hs => (first | trivial | ((try dsimp only); go_keep) | ((try dsimp only); simp [*, World.cell?_alloc_some, World.cell?_setCell_far, World.cell?_setCell_other]))
      clear hK K
      try simp only [Act.put, List.setIfInBounds_toArray, List.set_cons_zero, List.set_cons_succ]
      refine wpAnyH_done (by kernel_rfl) ?_ _
      clear hHeld
      have hfin := h1.out.push (v' := .slice (some ⟨g5, 0, none⟩) (l.length + 1) c5) (w1 := w5) hrow5 (by rw [hu.out]; exact app_ch (Ch.alloc _ _ _) hgrow5) (by rw [hu.out]; exact app_more (Ch.alloc _ w1 _) hblk5)
      go_wp2
      refine ⟨⟨rfl, rfl, fun x9 hx9 => ?_⟩, _, (by simpa using hfin)⟩
      simp only [List.mem_cons, List.not_mem_nil, or_false] at hx9
      rcases hx9 with rfl | rfl | rfl | rfl | rfl | rfl | rfl | rfl | rfl
      all_goals first
        | rfl
        | exact congrArg some h4.symm
        | exact congrArg some h14.symm
        | exact congrArg some h15.symm
    · go_simp
      clear hHeld
      refine hK.out _ _ ?hs (fun hHeld => ?_)
      case hs => (first | trivial | ((try dsimp only); go_keep) | ((try dsimp only); simp [*, World.cell?_alloc_some, World.cell?_setCell_far, World.cell?_setCell_other]))
      clear hK K
      try simp only [Act.put, List.setIfInBounds_toArray, List.set_cons_zero, List.set_cons_succ]
      refine wpAnyH_ready (rs := [1]) (by kernel_rfl) (by simp) (AllReadyH.cons rfl (fun K hK => ?_) AllReadyH.nil)
      go_simp
      clear hHeld
      refine hK.out _ _ ?hs (fun hHeld => ?_)
      case hs => (first | trivial | ((try dsimp only); go_keep) | ((try dsimp only); simp [*, World.cell?_alloc_some, World.cell?_setCell_far, World.cell?_setCell_other]))
      clear hK K
      try simp only [Act.put, List.setIfInBounds_toArray, List.set_cons_zero, List.set_cons_succ]
      refine wpAnyH_ready (rs := [5]) (by kernel_rfl) (by simp) (AllReadyH.cons rfl (fun K hK => ?_) AllReadyH.nil)
      refine step_append rfl (.tmp 116) (.tmp 119) 87 rfl 3 (.int .i64 0) 1 8 Tryz.underlying87 Tryz.infoInt rfl (by decide) (.slice ua l.length uc) l.length (l.map (Value.int .i64)) (by simp [Act.eval]) hrA ⟨w1.heap.size, 0, none⟩ 1 1 [.int .i64 (x : Nat)] (by simp [Act.eval]) rfl hAc (by simp [Value.oneCell']) (by unfold maxLen; omega) (by omega) ?_
      intro v5 w5 hrow5 hgrow5 hblk5
      obtain ⟨g5, c5, rfl⟩ := ownsRow_succ hrow5
      obtain ⟨d5, df5⟩ := cb_after (i := 1) hb1 hlt1 (show (Value.slice ua l.length uc).ownBlock ≠ some hb by rw [← hu.out]; exact hne1) hgrow5 rfl
      clear hHeld
      refine hK.out _ _ ?hs (fun hHeld => ?_)
      case hs => (first | trivial | ((try dsimp only); go_keep) | ((try dsimp only); simp [*, World.cell?_alloc_some, World.cell?_setCell_far, World.cell?_setCell_other]))
      clear hK K
      try simp only [Act.put, List.setIfInBounds_toArray, List.set_cons_zero, List.set_cons_succ]
      refine wpAnyH_take (i := 6) (v := ?vvi2010) rfl (by kernel_rfl) (by kernel_rfl) (by kernel_rfl) (fun c9 a9 w9 h9 => hQ0 c9 (a9.put _ _) a9 w9 (by rfl) h9) (Or.inl ⟨by rfl, ?yyi2010⟩) (by assumption) ?rri2010
      case yyi2010 => (intro w' hSw; (try dsimp only at hSw); go_simp; (try with_reducible rfl))
      try simp only [Act.put, List.setIfInBounds_toArray, List.set_cons_zero, List.set_cons_succ]
      refine wpAnyH_ready (rs := [7]) (by kernel_rfl) (by simp) (AllReadyH.cons rfl (fun K hK => ?_) AllReadyH.nil)
      go_simp
      clear hHeld
      refine hK.out _ _ ?hs (fun hHeld => ?_)
      case hs => (first | trivial | ((try dsimp only); go_keep) | ((try dsimp only); simp [*, World.cell?_alloc_some, World.cell?_setCell_far, World.cell?_setCell_other]))
      clear hK K
      try simp only [Act.put, List.setIfInBounds_toArray, List.set_cons_zero, List.set_cons_succ]
      refine wpAnyH_done (by kernel_rfl) ?_ _
      clear hHeld
      have hfin := h1.out.push (v' := .slice (some ⟨g5, 0, none⟩) (l.length + 1) c5) (w1 := w5) hrow5 (by rw [hu.out]; exact app_ch (Ch.alloc _ _ _) hgrow5) (by rw [hu.out]; exact app_more (Ch.alloc _ w1 _) hblk5)
      go_wp2
      refine ⟨⟨rfl, rfl, fun x9 hx9 => ?_⟩, _, (by simpa using hfin)⟩
      simp only [List.mem_cons, List.not_mem_nil, or_false] at hx9
      rcases hx9 with rfl | rfl | rfl | rfl | rfl | rfl | rfl | rfl | rfl
      all_goals first
        | rfl
        | exact congrArg some h4.symm
        | exact congrArg some h14.symm
        | exact congrArg some h15.symm
theorem ints_loop {w0 W : World} {s : List UInt8} {g : Dg} {n hb : Nat} {sw : Bool} (F : Nat → Value) (Q0 : Exit → Act → World → Prop) (hQ0 : ∀ c a a' w, a.defers = a'.defers → Q0 (.panic c) a w → Q0 (.panic c) a' w) (h4 : F 4 = .pointer (some ⟨g.b, 0, none⟩)) (h14 : F 14 = .pointer (some ⟨hb, 0, none⟩)) (h15 : F 15 = .int .i64 (n : Nat)) (hs : s.length ≤ 4000000) (hn : n ≤ 65535) (hst : Sst 121 [.bool sw] 3 1 w0 s g hb (.slice none 0 0) 0 [] W) (a0 : Act) (hfr : FrK [0, 2, 3, 4, 7, 8, 13, 14, 15] F a0) (h0 : a0.tmps[16]? = some (.int .i64 0))
    (hexit : ∀ a' w' u, FrK [0, 2, 3, 4, 7, 8, 13, 14, 15] F a' → Sst 121 [.bool sw] 3 1 w0 s { g with r := (g.r.intsL s n).2 } hb u (g.r.intsL s n).1.length ((g.r.intsL s n).1.map (Value.int .i64)) w' → Q0 (.exit 6) a' w') : Code.wp Tryz.prog (Code.loop ((firstLoop ((Tryz.f15.body.map (fun c => (loopsOf c).getD 2 .skip)).getD .skip)).getD .skip)) Q0 a0 W := by
  refine wp_loop (fun a w => ∃ (i : Nat) (r : Cd.Rd) (u : Value) (l : List Int), i ≤ n ∧ l.length ≤ i ∧ FrK [0, 2, 3, 4, 7, 8, 13, 14, 15] F a ∧ a.tmps[16]? = some (.int .i64 (i : Nat)) ∧ Sst 121 [.bool sw] 3 1 w0 s { g with r := r } hb u l.length (l.map (Value.int .i64)) w ∧ g.r.intsL s n = (l ++ (r.intsL s (n - i)).1, (r.intsL s (n - i)).2)) (fun a _ => n - (intOf (a.tmps.getD 16 undef)).toNat) ⟨0, g.r, .slice none 0 0, [], Nat.zero_le _, Nat.le_refl _, hfr, h0, by simpa using hst, by simp⟩ ?_
  rintro a w ⟨i, r, u, l, hi, hl, hf, hi9, hd, hrel⟩
  have hmu : (intOf (a.tmps.getD 16 undef)).toNat = i := by simp [Array.getD_eq_getD_getElem?, hi9, intOf]
  rw [hmu]
  obtain ⟨G, rfl, hG⟩ := act_open hf.sz hf.df
  have hok0 := hd.m.ok
  have hout : (¬ i < n ∨ ¬ r.fk = 0) → ∀ a', FrK [0, 2, 3, 4, 7, 8, 13, 14, 15] F a' → Q0 (.exit 6) a' w := fun hw a' hk => by
    have e : r.intsL s (n - i) = ([], r) := by
      rcases hw with e | e
      · rw [show n - i = 0 by omega]; rfl
      · cases hni : n - i with
        | zero => rfl
        | succ j => simp [Cd.Rd.intsL, e]
    rw [e] at hrel
    refine hexit a' w u hk ?_
    rw [hrel]
    simpa using hd
  have f0 : G 0 = F 0 := hG 0 _ (hf.k 0 (by simp))
  have f2 : G 2 = F 2 := hG 2 _ (hf.k 2 (by simp))
  have f3 : G 3 = F 3 := hG 3 _ (hf.k 3 (by simp))
  have f4 : G 4 = F 4 := hG 4 _ (hf.k 4 (by simp))
  have f7 : G 7 = F 7 := hG 7 _ (hf.k 7 (by simp))
  have f8 : G 8 = F 8 := hG 8 _ (hf.k 8 (by simp))
  have f13 : G 13 = F 13 := hG 13 _ (hf.k 13 (by simp))
  have f14 : G 14 = F 14 := hG 14 _ (hf.k 14 (by simp))
  have f15 : G 15 = F 15 := hG 15 _ (hf.k 15 (by simp))
  have fi : G 16 = .int .i64 (i : Nat) := hG 16 _ hi9
  rw [h4] at f4
  rw [h14] at f14
  rw [h15] at f15
  rw [f0, f2, f3, f4, f7, f8, f13, f14, f15, fi]
  clear hG hf hi9
  by_cases hlt : i < n
  · by_cases h0 : r.fk = 0
    · obtain ⟨x, r1, hk⟩ : ∃ x r1, r.num s 1 = (x, r1) := ⟨_, _, rfl⟩
      have hstep : g.r.intsL s n = ((l ++ [(x : Int)]) ++ (r1.intsL s (n - (i + 1))).1, (r1.intsL s (n - (i + 1))).2) := by
        rw [hrel, show n - i = (n - (i + 1)) + 1 by omega]
        simp only [Cd.Rd.intsL, if_pos h0, hk]
        simp
      refine wp_mono (ints_round (g := { g with r := r }) F G Q0 hQ0 h4 h14 h15 hs hd hlt hn h0 hl hk) ?_
      intro e a' w' h
      have fin : (FrK [0, 2, 3, 4, 7, 8, 13, 14, 15] F a' ∧ a'.tmps[16]? = some (.int .i64 ((i : Int) + 1)) ∧ ∃ v, Sst 121 [.bool sw] 3 1 w0 s { ({ g with r := r } : Dg) with r := r1 } hb v (l ++ [(x : Int)]).length ((l ++ [(x : Int)]).map (Value.int .i64)) w') → (∃ (i : Nat) (r : Cd.Rd) (u : Value) (l : List Int), i ≤ n ∧ l.length ≤ i ∧ FrK [0, 2, 3, 4, 7, 8, 13, 14, 15] F a' ∧ a'.tmps[16]? = some (.int .i64 (i : Nat)) ∧ Sst 121 [.bool sw] 3 1 w0 s { g with r := r } hb u l.length (l.map (Value.int .i64))  w' ∧ g.r.intsL s n = (l ++ (r.intsL s (n - i)).1, (r.intsL s (n - i)).2)) ∧ n - (intOf (a'.tmps.getD 16 undef)).toNat < n - i := by
        rintro ⟨b1, b2, v', b3⟩
        refine ⟨⟨i + 1, r1, v', (l ++ [(x : Int)]), by omega, by simp; omega, b1, by simpa using b2, b3, hstep⟩, ?_⟩
        simp only [Array.getD_eq_getD_getElem?, b2, Option.getD_some, intOf]
        omega
      cases e <;> first | exact fin h | exact h
    · exact ints_exit_b (g := { g with r := r }) F G Q0 _ h4 h14 h15 hok0 hlt h0 (hout (.inr h0))
  · exact ints_exit_a (g := { g with r := r }) F G Q0 _ h4 h14 h15 hok0 hlt (hout (.inl hlt))
theorem ints_loop2 {w0 W : World} {s : List UInt8} {g : Dg} {n hb : Nat} {sw : Bool} (a0 : Act) (Q0 : Exit → Act → World → Prop) (hsz : a0.tmps.size = 196) (hdf : a0.defers = []) (h0 : a0.tmps[16]? = some (.int .i64 0)) (h4 : a0.tmps.getD 4 undef = .pointer (some ⟨g.b, 0, none⟩)) (h14 : a0.tmps.getD 14 undef = .pointer (some ⟨hb, 0, none⟩)) (h15 : a0.tmps.getD 15 undef = .int .i64 (n : Nat)) (hQ0 : ∀ c a a' w, a.defers = a'.defers → Q0 (.panic c) a w → Q0 (.panic c) a' w) (hs : s.length ≤ 4000000) (hn : n ≤ 65535) (hst : Sst 121 [.bool sw] 3 1 w0 s g hb (.slice none 0 0) 0 [] W)
    (hexit : ∀ a' w' u, FrK [0, 2, 3, 4, 7, 8, 13, 14, 15] (fun i => a0.tmps.getD i undef) a' → Sst 121 [.bool sw] 3 1 w0 s { g with r := (g.r.intsL s n).2 } hb u (g.r.intsL s n).1.length ((g.r.intsL s n).1.map (Value.int .i64)) w' → Q0 (.exit 6) a' w') : Code.wp Tryz.prog (Code.loop ((firstLoop ((Tryz.f15.body.map (fun c => (loopsOf c).getD 2 .skip)).getD .skip)).getD .skip)) Q0 a0 W :=
  ints_loop (fun i => a0.tmps.getD i undef) Q0 hQ0 h4 h14 h15 hs hn hst a0 (frk_self hsz hdf (by simp)) h0 hexit
end Go.Proofs.YtpjbfdpblgjmfaaGreatDoor
