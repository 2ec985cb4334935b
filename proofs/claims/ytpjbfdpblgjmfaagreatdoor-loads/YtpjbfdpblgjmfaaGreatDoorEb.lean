/-
  The document's fun: its frame; the loop over the operands.
-/
import Derived.Test.YtpjbfdpblgjmfaaGreatDoorME
import Derived.Test.YtpjbfdpblgjmfaaGreatDoorMO
set_option linter.unusedVariables false
set_option linter.unusedSimpArgs false
namespace Go.Proofs.YtpjbfdpblgjmfaaGreatDoor
open Go.RowKit

set_option maxRecDepth 100000 in
theorem list_open2 (l : List Value) (h : l.length = 182) : ∃ F : Nat → Value, l = [F 0, F 1, F 2, F 3, F 4, F 5, F 6, F 7, F 8, F 9, F 10, F 11, F 12, F 13, F 14, F 15, F 16, F 17, F 18, F 19, F 20, F 21, F 22, F 23, F 24, F 25, F 26, F 27, F 28, F 29, F 30, F 31, F 32, F 33, F 34, F 35, F 36, F 37, F 38, F 39, F 40, F 41, F 42, F 43, F 44, F 45, F 46, F 47, F 48, F 49, F 50, F 51, F 52, F 53, F 54, F 55, F 56, F 57, F 58, F 59, F 60, F 61, F 62, F 63, F 64, F 65, F 66, F 67, F 68, F 69, F 70, F 71, F 72, F 73, F 74, F 75, F 76, F 77, F 78, F 79, F 80, F 81, F 82, F 83, F 84, F 85, F 86, F 87, F 88, F 89, F 90, F 91, F 92, F 93, F 94, F 95, F 96, F 97, F 98, F 99, F 100, F 101, F 102, F 103, F 104, F 105, F 106, F 107, F 108, F 109, F 110, F 111, F 112, F 113, F 114, F 115, F 116, F 117, F 118, F 119, F 120, F 121, F 122, F 123, F 124, F 125, F 126, F 127, F 128, F 129, F 130, F 131, F 132, F 133, F 134, F 135, F 136, F 137, F 138, F 139, F 140, F 141, F 142, F 143, F 144, F 145, F 146, F 147, F 148, F 149, F 150, F 151, F 152, F 153, F 154, F 155, F 156, F 157, F 158, F 159, F 160, F 161, F 162, F 163, F 164, F 165, F 166, F 167, F 168, F 169, F 170, F 171, F 172, F 173, F 174, F 175, F 176, F 177, F 178, F 179, F 180, F 181] ∧ ∀ i v, l[i]? = some v → F i = v := by
  refine ⟨fun i => l.getD i undef, ?_, fun i v hv => by simp [List.getD, hv]⟩
  have e : l = (List.range 182).map (fun i => l.getD i undef) := by
    apply List.ext_getElem?
    intro i
    by_cases hi : i < l.length
    · simp [List.getElem?_range (show i < 182 by omega), List.getD, hi]
    · rw [List.getElem?_eq_none (by omega), List.getElem?_eq_none (by simp; omega)]
  exact e
theorem act_open2 {a : Act} (h : a.tmps.size = 182) (hd : a.defers = []) : ∃ F : Nat → Value, a = ⟨#[F 0, F 1, F 2, F 3, F 4, F 5, F 6, F 7, F 8, F 9, F 10, F 11, F 12, F 13, F 14, F 15, F 16, F 17, F 18, F 19, F 20, F 21, F 22, F 23, F 24, F 25, F 26, F 27, F 28, F 29, F 30, F 31, F 32, F 33, F 34, F 35, F 36, F 37, F 38, F 39, F 40, F 41, F 42, F 43, F 44, F 45, F 46, F 47, F 48, F 49, F 50, F 51, F 52, F 53, F 54, F 55, F 56, F 57, F 58, F 59, F 60, F 61, F 62, F 63, F 64, F 65, F 66, F 67, F 68, F 69, F 70, F 71, F 72, F 73, F 74, F 75, F 76, F 77, F 78, F 79, F 80, F 81, F 82, F 83, F 84, F 85, F 86, F 87, F 88, F 89, F 90, F 91, F 92, F 93, F 94, F 95, F 96, F 97, F 98, F 99, F 100, F 101, F 102, F 103, F 104, F 105, F 106, F 107, F 108, F 109, F 110, F 111, F 112, F 113, F 114, F 115, F 116, F 117, F 118, F 119, F 120, F 121, F 122, F 123, F 124, F 125, F 126, F 127, F 128, F 129, F 130, F 131, F 132, F 133, F 134, F 135, F 136, F 137, F 138, F 139, F 140, F 141, F 142, F 143, F 144, F 145, F 146, F 147, F 148, F 149, F 150, F 151, F 152, F 153, F 154, F 155, F 156, F 157, F 158, F 159, F 160, F 161, F 162, F 163, F 164, F 165, F 166, F 167, F 168, F 169, F 170, F 171, F 172, F 173, F 174, F 175, F 176, F 177, F 178, F 179, F 180, F 181], []⟩ ∧ ∀ i v, a.tmps[i]? = some v → F i = v := by
  obtain ⟨⟨l⟩, d⟩ := a
  obtain rfl : d = [] := hd
  obtain ⟨F, h1, h2⟩ := list_open2 l (by simpa using h)
  exact ⟨F, by rw [← h1], fun i v hv => h2 i v (by simpa using hv)⟩
structure FrL (ks : List Nat) (F : Nat → Value) (a : Act) : Prop where
  sz : a.tmps.size = 182
  df : a.defers = []
  k : ∀ i ∈ ks, a.tmps[i]? = some (F i)
theorem frl_self {ks : List Nat} {a : Act} (h : a.tmps.size = 182) (hd : a.defers = []) (hk : ∀ i ∈ ks, i < 182) : FrL ks (fun i => a.tmps.getD i undef) a := by
  refine ⟨h, hd, fun i hi => ?_⟩
  have hi2 : i < a.tmps.size := by rw [h]; exact hk i hi
  simp [Array.getD_eq_getD_getElem?, hi2]
theorem below_undrew {w w' : World} (h : Below w.drew.heap.size w.drew w') : Below w.heap.size w w' := ⟨h.os, h.tape, h.output, h.size, h.block⟩
/-- What fun reads: the code and the function in memory, and their two boxes. -/
structure Fc (C : Cd.Code) (f : Cd.Fun) (b c d v : Value) (cB fB : Nat) (w : World) : Prop where
  cm : CodeM w b c d C
  im : InssM w v f.ins
  hc : w.heap[cB]? = some (.cells #[.string ⟨C.shape.toArray⟩, b, c, d] 38 (0, 0))
  hf : w.heap[fB]? = some (.cells #[.int .i64 f.free, .int .i64 f.slots, v] 85 (0, 0))
theorem Fc.keep {C : Cd.Code} {f : Cd.Fun} {b c d v : Value} {cB fB : Nat} {w w' : World} (h : Fc C f b c d v cB fB w) (hb : Below w.heap.size w w') : Fc C f b c d v cB fB w' :=
  ⟨h.cm.keep hb, h.im.keep hb, (hb.block cB (Array.getElem?_eq_some_iff.1 h.hc).1).trans h.hc, (hb.block fB (Array.getElem?_eq_some_iff.1 h.hf).1).trans h.hf⟩
theorem Fc.cells {C : Cd.Code} {f : Cd.Fun} {b c d v : Value} {cB fB : Nat} {w : World} (h : Fc C f b c d v cB fB w) : w.cell? ⟨cB, 0, none⟩ = some (.string ⟨C.shape.toArray⟩) ∧ w.cell? ⟨cB, 1, none⟩ = some b ∧ w.cell? ⟨cB, 2, none⟩ = some c ∧ w.cell? ⟨cB, 3, none⟩ = some d ∧ w.cell? ⟨fB, 0, none⟩ = some (.int .i64 f.free) ∧ w.cell? ⟨fB, 1, none⟩ = some (.int .i64 f.slots) ∧ w.cell? ⟨fB, 2, none⟩ = some v := by
  have h1 := h.hc
  have h2 := h.hf
  refine ⟨?_, ?_, ?_, ?_, ?_, ?_, ?_⟩ <;> simp [World.cell?, h1, h2]
set_option maxRecDepth 100000 in
set_option maxHeartbeats 8000000 in
theorem opd_round {wr : World} {C : Cd.Code} {f : Cd.Fun} {vb vc vd : Value} {cB fB gv kv cv i : Nat} {first : Bool} {x : Cd.Ins} (F G : Nat → Value) (Q0 : Exit → Act → World → Prop) (hQ0 : ∀ c a a' w, a.defers = a'.defers → Q0 (.panic c) a w → Q0 (.panic c) a' w) (h2 : F 2 = .bool first) (h3 : F 3 = .pointer (some ⟨cB, 0, none⟩)) (h4 : F 4 = .pointer (some ⟨fB, 0, none⟩))
    (hF : Fc C f vb vc vd (.slice (some ⟨gv, kv, none⟩) f.ins.length cv) cB fB wr) (hx : f.ins[i]? = some x) (hc : ∀ i x, f.ins[i]? = some x → wr.cell? ⟨gv, kv + i * 4, none⟩ = some (.int .i64 x.op) ∧ wr.cell? ⟨gv, kv + i * 4 + 1, none⟩ = some (.int .i64 x.a) ∧ wr.cell? ⟨gv, kv + i * 4 + 2, none⟩ = some (.int .i64 x.b) ∧ wr.cell? ⟨gv, kv + i * 4 + 3, none⟩ = some (.int .i64 x.n)) (hn : f.ins.length ≤ 65535)
    (ho : Cd.opd C f first x = 0) :
    Code.wp Tryz.prog ((Tryz.f38.body.map (fun c => (loopsOf c).getD 0 .skip)).getD .skip) (Exit.then (fun a' w' => FrL [0, 1, 2, 3, 4] F a' ∧ a'.tmps[8]? = some (.int .i64 ((i : Int) + 1)) ∧ Below wr.heap.size wr w') Q0) ⟨#[F 0, F 1, .bool first, .pointer (some ⟨cB, 0, none⟩), .pointer (some ⟨fB, 0, none⟩), G 5, G 6, G 7, .int .i64 (i : Nat), G 9, G 10, G 11, G 12, G 13, G 14, G 15, G 16, G 17, G 18, G 19, G 20, G 21, G 22, G 23, G 24, G 25, G 26, G 27, G 28, G 29, G 30, G 31, G 32, G 33, G 34, G 35, G 36, G 37, G 38, G 39, G 40, G 41, G 42, G 43, G 44, G 45, G 46, G 47, G 48, G 49, G 50, G 51, G 52, G 53, G 54, G 55, G 56, G 57, G 58, G 59, G 60, G 61, G 62, G 63, G 64, G 65, G 66, G 67, G 68, G 69, G 70, G 71, G 72, G 73, G 74, G 75, G 76, G 77, G 78, G 79, G 80, G 81, G 82, G 83, G 84, G 85, G 86, G 87, G 88, G 89, G 90, G 91, G 92, G 93, G 94, G 95, G 96, G 97, G 98, G 99, G 100, G 101, G 102, G 103, G 104, G 105, G 106, G 107, G 108, G 109, G 110, G 111, G 112, G 113, G 114, G 115, G 116, G 117, G 118, G 119, G 120, G 121, G 122, G 123, G 124, G 125, G 126, G 127, G 128, G 129, G 130, G 131, G 132, G 133, G 134, G 135, G 136, G 137, G 138, G 139, G 140, G 141, G 142, G 143, G 144, G 145, G 146, G 147, G 148, G 149, G 150, G 151, G 152, G 153, G 154, G 155, G 156, G 157, G 158, G 159, G 160, G 161, G 162, G 163, G 164, G 165, G 166, G 167, G 168, G 169, G 170, G 171, G 172, G 173, G 174, G 175, G 176, G 177, G 178, G 179, G 180, G 181], []⟩ wr := by
  have hmx : Tryz.prog.follows .mixedOrders = true := by kernel_rfl
  have hlt : i < f.ins.length := (List.getElem?_eq_some_iff.1 hx).1
  have hi0 : (0 : Int) ≤ (i : Int) := by omega
  have hi1 : (i : Int) < (f.ins.length : Int) := by omega
  have hw : IntKind.i64.wrap ((i : Int) + 1) = (i : Int) + 1 := IntWalk.i64_in _ (by omega)
  obtain ⟨c0, c1, c2, c3, c4, c5, c6⟩ := hF.cells
  obtain ⟨c7, c8, c9, c10⟩ := hc i x hx
  have hFd : Fc C f vb vc vd (.slice (some ⟨gv, kv, none⟩) f.ins.length cv) cB fB wr.drew := hF.keep ((Below.refl _ _).drew)
  have hopd := operand_any C vb vc vd f (.slice (some ⟨gv, kv, none⟩) f.ins.length cv) first x wr.drew hFd.cm hFd.im
  unfold codeV2 funV insV2 at hopd
  obtain ⟨e, he⟩ : ∃ e, Cd.opd C f first x = e := ⟨_, rfl⟩
  rw [he] at hopd ho
  clear hc hF hFd he
  conv => arg 2; whnf
  go_upto_region 4 with (fail)
  refine wp_region_held_drew (S := (fun w' => w'.cell? ⟨cB, 0, none⟩ = some (.string ⟨C.shape.toArray⟩) ∧ w'.cell? ⟨cB, 1, none⟩ = some (vb) ∧ w'.cell? ⟨cB, 2, none⟩ = some (vc) ∧ w'.cell? ⟨cB, 3, none⟩ = some (vd) ∧ w'.cell? ⟨fB, 0, none⟩ = some (.int .i64 f.free) ∧ w'.cell? ⟨fB, 1, none⟩ = some (.int .i64 f.slots) ∧ w'.cell? ⟨fB, 2, none⟩ = some (.slice (some ⟨gv, kv, none⟩) f.ins.length cv) ∧ w'.cell? ⟨gv, kv + i * 4, none⟩ = some (.int .i64 x.op) ∧ w'.cell? ⟨gv, kv + i * 4 + 1, none⟩ = some (.int .i64 x.a) ∧ w'.cell? ⟨gv, kv + i * 4 + 2, none⟩ = some (.int .i64 x.b) ∧ w'.cell? ⟨gv, kv + i * 4 + 3, none⟩ = some (.int .i64 x.n))) (by kernel_rfl) (by first | trivial | ((try dsimp only); go_keep)) (fun hHeld => ?_)
  refine wpAnyH_take (i := 0) (v := ?vvp8001) rfl (by kernel_rfl) (by kernel_rfl) (by kernel_rfl) (fun c9 a9 w9 h9 => hQ0 c9 (a9.put _ _) a9 w9 (by rfl) h9) (Or.inl ⟨by rfl, ?yyp8001⟩) (by assumption) ?rrp8001
  case yyp8001 => (intro w' hSw; (try dsimp only at hSw); go_simp; (try with_reducible rfl))
  try simp only [Act.put, List.setIfInBounds_toArray, List.set_cons_zero, List.set_cons_succ]
  refine wpAnyH_take (i := 1) (v := ?vvp8002) rfl (by kernel_rfl) (by kernel_rfl) (by kernel_rfl) (fun c9 a9 w9 h9 => hQ0 c9 (a9.put _ _) a9 w9 (by rfl) h9) (Or.inl ⟨by rfl, ?yyp8002⟩) (by assumption) ?rrp8002
  case yyp8002 => (intro w' hSw; (try dsimp only at hSw); go_simp; (try with_reducible rfl))
  try simp only [Act.put, List.setIfInBounds_toArray, List.set_cons_zero, List.set_cons_succ]
  refine wpAnyH_take (i := 2) (v := ?vvp8003) rfl (by kernel_rfl) (by kernel_rfl) (by kernel_rfl) (fun c9 a9 w9 h9 => hQ0 c9 (a9.put _ _) a9 w9 (by rfl) h9) (Or.inl ⟨by rfl, ?yyp8003⟩) (by assumption) ?rrp8003
  case yyp8003 => (intro w' hSw; (try dsimp only at hSw); go_simp; (try with_reducible rfl))
  try simp only [Act.put, List.setIfInBounds_toArray, List.set_cons_zero, List.set_cons_succ]
  refine wpAnyH_take (i := 3) (v := ?vvp8004) rfl (by kernel_rfl) (by kernel_rfl) (by kernel_rfl) (fun c9 a9 w9 h9 => hQ0 c9 (a9.put _ _) a9 w9 (by rfl) h9) (Or.inl ⟨by rfl, ?yyp8004⟩) (by assumption) ?rrp8004
  case yyp8004 => (intro w' hSw; (try dsimp only at hSw); go_simp; (try with_reducible rfl))
  try simp only [Act.put, List.setIfInBounds_toArray, List.set_cons_zero, List.set_cons_succ]
  refine wpAnyH_take (i := 4) (v := ?vvp8005) rfl (by kernel_rfl) (by kernel_rfl) (by kernel_rfl) (fun c9 a9 w9 h9 => hQ0 c9 (a9.put _ _) a9 w9 (by rfl) h9) (Or.inl ⟨by rfl, ?yyp8005⟩) (by assumption) ?rrp8005
  case yyp8005 => (intro w' hSw; (try dsimp only at hSw); go_simp; (try with_reducible rfl))
  try simp only [Act.put, List.setIfInBounds_toArray, List.set_cons_zero, List.set_cons_succ]
  refine wpAnyH_take (i := 5) (v := ?vvp8006) rfl (by kernel_rfl) (by kernel_rfl) (by kernel_rfl) (fun c9 a9 w9 h9 => hQ0 c9 (a9.put _ _) a9 w9 (by rfl) h9) (Or.inl ⟨by rfl, ?yyp8006⟩) (by assumption) ?rrp8006
  case yyp8006 => (intro w' hSw; (try dsimp only at hSw); go_simp; (try with_reducible rfl))
  try simp only [Act.put, List.setIfInBounds_toArray, List.set_cons_zero, List.set_cons_succ]
  refine wpAnyH_take (i := 6) (v := ?vvp8007) rfl (by kernel_rfl) (by kernel_rfl) (by kernel_rfl) (fun c9 a9 w9 h9 => hQ0 c9 (a9.put _ _) a9 w9 (by rfl) h9) (Or.inl ⟨by rfl, ?yyp8007⟩) (by assumption) ?rrp8007
  case yyp8007 => (intro w' hSw; (try dsimp only at hSw); go_simp; (try with_reducible rfl))
  try simp only [Act.put, List.setIfInBounds_toArray, List.set_cons_zero, List.set_cons_succ]
  refine wpAnyH_take (i := 7) (v := ?vvp8008) rfl (by kernel_rfl) (by kernel_rfl) (by kernel_rfl) (fun c9 a9 w9 h9 => hQ0 c9 (a9.put _ _) a9 w9 (by rfl) h9) (Or.inl ⟨by rfl, ?yyp8008⟩) (by assumption) ?rrp8008
  case yyp8008 => (intro w' hSw; (try dsimp only at hSw); go_simp; (try with_reducible rfl))
  try simp only [Act.put, List.setIfInBounds_toArray, List.set_cons_zero, List.set_cons_succ]
  refine wpAnyH_ready (rs := [8]) (by kernel_rfl) (by simp) (AllReadyH.cons rfl (fun K hK => ?_) AllReadyH.nil)
  go_simp
  refine hopd.mono ?_
  clear hopd
  rintro e w9 ⟨rfl, hb9⟩
  have k0 := (hb9.cell (p := ⟨cB, 0, none⟩) (World.block_lt_of_cell? wr _ c0)).trans c0
  have k1 := (hb9.cell (p := ⟨cB, 1, none⟩) (World.block_lt_of_cell? wr _ c1)).trans c1
  have k2 := (hb9.cell (p := ⟨cB, 2, none⟩) (World.block_lt_of_cell? wr _ c2)).trans c2
  have k3 := (hb9.cell (p := ⟨cB, 3, none⟩) (World.block_lt_of_cell? wr _ c3)).trans c3
  have k4 := (hb9.cell (p := ⟨fB, 0, none⟩) (World.block_lt_of_cell? wr _ c4)).trans c4
  have k5 := (hb9.cell (p := ⟨fB, 1, none⟩) (World.block_lt_of_cell? wr _ c5)).trans c5
  have k6 := (hb9.cell (p := ⟨fB, 2, none⟩) (World.block_lt_of_cell? wr _ c6)).trans c6
  have k7 := (hb9.cell (p := ⟨gv, kv + i * 4, none⟩) (World.block_lt_of_cell? wr _ c7)).trans c7
  have k8 := (hb9.cell (p := ⟨gv, kv + i * 4 + 1, none⟩) (World.block_lt_of_cell? wr _ c8)).trans c8
  have k9 := (hb9.cell (p := ⟨gv, kv + i * 4 + 2, none⟩) (World.block_lt_of_cell? wr _ c9)).trans c9
  have k10 := (hb9.cell (p := ⟨gv, kv + i * 4 + 3, none⟩) (World.block_lt_of_cell? wr _ c10)).trans c10
  dsimp only
  clear hHeld
  refine hK.out _ _ ?hs (fun hHeld => ?_)
  case hs => (first | trivial | ((try dsimp only); go_keep) | ((try dsimp only); simp [*, World.cell?_alloc_some, World.cell?_setCell_far, World.cell?_setCell_other]))
  clear hK K
  try simp only [Act.put, List.setIfInBounds_toArray, List.set_cons_zero, List.set_cons_succ]
  refine wpAnyH_take (i := 9) (v := ?vvp8009) rfl (by kernel_rfl) (by kernel_rfl) (by kernel_rfl) (fun c9 a9 w9 h9 => hQ0 c9 (a9.put _ _) a9 w9 (by rfl) h9) (Or.inl ⟨by rfl, ?yyp8009⟩) (by assumption) ?rrp8009
  case yyp8009 => (intro w' hSw; (try dsimp only at hSw); go_simp; (try with_reducible rfl))
  try simp only [Act.put, List.setIfInBounds_toArray, List.set_cons_zero, List.set_cons_succ]
  refine wpAnyH_done (by kernel_rfl) ?_ _
  clear hHeld
  subst ho
  go_wp2
  first
    | exact ⟨⟨rfl, rfl, (by
      intro x9 hx9
      simp only [List.mem_cons, List.not_mem_nil, or_false] at hx9
      rcases hx9 with rfl | rfl | rfl | rfl | rfl
      all_goals first
        | rfl
        | exact congrArg some h2.symm
        | exact congrArg some h3.symm
        | exact congrArg some h4.symm)⟩, below_undrew hb9⟩
    | exact ⟨⟨rfl, rfl, (by
      intro x9 hx9
      simp only [List.mem_cons, List.not_mem_nil, or_false] at hx9
      rcases hx9 with rfl | rfl | rfl | rfl | rfl
      all_goals first
        | rfl
        | exact congrArg some h2.symm
        | exact congrArg some h3.symm
        | exact congrArg some h4.symm)⟩, rfl, below_undrew hb9⟩
set_option maxRecDepth 100000 in
set_option maxHeartbeats 8000000 in
theorem opd_fault {wr : World} {C : Cd.Code} {f : Cd.Fun} {vb vc vd : Value} {cB fB gv kv cv i : Nat} {first : Bool} {x : Cd.Ins} (F G : Nat → Value) (Q0 : Exit → Act → World → Prop) (hQ0 : ∀ c a a' w, a.defers = a'.defers → Q0 (.panic c) a w → Q0 (.panic c) a' w) (h2 : F 2 = .bool first) (h3 : F 3 = .pointer (some ⟨cB, 0, none⟩)) (h4 : F 4 = .pointer (some ⟨fB, 0, none⟩))
    (hF : Fc C f vb vc vd (.slice (some ⟨gv, kv, none⟩) f.ins.length cv) cB fB wr) (hx : f.ins[i]? = some x) (hc : ∀ i x, f.ins[i]? = some x → wr.cell? ⟨gv, kv + i * 4, none⟩ = some (.int .i64 x.op) ∧ wr.cell? ⟨gv, kv + i * 4 + 1, none⟩ = some (.int .i64 x.a) ∧ wr.cell? ⟨gv, kv + i * 4 + 2, none⟩ = some (.int .i64 x.b) ∧ wr.cell? ⟨gv, kv + i * 4 + 3, none⟩ = some (.int .i64 x.n)) (hn : f.ins.length ≤ 65535)
    (ho : ¬ Cd.opd C f first x = 0) (hret : ∀ a' w', a'.defers = [] → a'.tmps[6]? = some (.int .i64 (Cd.opd C f first x)) → a'.tmps[7]? = some (.int .i64 (i : Nat)) → Below wr.heap.size wr w' → Q0 .ret a' w') :
    Code.wp Tryz.prog ((Tryz.f38.body.map (fun c => (loopsOf c).getD 0 .skip)).getD .skip) (Exit.then (fun _ _ => False) Q0) ⟨#[F 0, F 1, .bool first, .pointer (some ⟨cB, 0, none⟩), .pointer (some ⟨fB, 0, none⟩), G 5, G 6, G 7, .int .i64 (i : Nat), G 9, G 10, G 11, G 12, G 13, G 14, G 15, G 16, G 17, G 18, G 19, G 20, G 21, G 22, G 23, G 24, G 25, G 26, G 27, G 28, G 29, G 30, G 31, G 32, G 33, G 34, G 35, G 36, G 37, G 38, G 39, G 40, G 41, G 42, G 43, G 44, G 45, G 46, G 47, G 48, G 49, G 50, G 51, G 52, G 53, G 54, G 55, G 56, G 57, G 58, G 59, G 60, G 61, G 62, G 63, G 64, G 65, G 66, G 67, G 68, G 69, G 70, G 71, G 72, G 73, G 74, G 75, G 76, G 77, G 78, G 79, G 80, G 81, G 82, G 83, G 84, G 85, G 86, G 87, G 88, G 89, G 90, G 91, G 92, G 93, G 94, G 95, G 96, G 97, G 98, G 99, G 100, G 101, G 102, G 103, G 104, G 105, G 106, G 107, G 108, G 109, G 110, G 111, G 112, G 113, G 114, G 115, G 116, G 117, G 118, G 119, G 120, G 121, G 122, G 123, G 124, G 125, G 126, G 127, G 128, G 129, G 130, G 131, G 132, G 133, G 134, G 135, G 136, G 137, G 138, G 139, G 140, G 141, G 142, G 143, G 144, G 145, G 146, G 147, G 148, G 149, G 150, G 151, G 152, G 153, G 154, G 155, G 156, G 157, G 158, G 159, G 160, G 161, G 162, G 163, G 164, G 165, G 166, G 167, G 168, G 169, G 170, G 171, G 172, G 173, G 174, G 175, G 176, G 177, G 178, G 179, G 180, G 181], []⟩ wr := by
  have hmx : Tryz.prog.follows .mixedOrders = true := by kernel_rfl
  have hlt : i < f.ins.length := (List.getElem?_eq_some_iff.1 hx).1
  have hi0 : (0 : Int) ≤ (i : Int) := by omega
  have hi1 : (i : Int) < (f.ins.length : Int) := by omega
  have hw : IntKind.i64.wrap ((i : Int) + 1) = (i : Int) + 1 := IntWalk.i64_in _ (by omega)
  obtain ⟨c0, c1, c2, c3, c4, c5, c6⟩ := hF.cells
  obtain ⟨c7, c8, c9, c10⟩ := hc i x hx
  have hFd : Fc C f vb vc vd (.slice (some ⟨gv, kv, none⟩) f.ins.length cv) cB fB wr.drew := hF.keep ((Below.refl _ _).drew)
  have hopd := operand_any C vb vc vd f (.slice (some ⟨gv, kv, none⟩) f.ins.length cv) first x wr.drew hFd.cm hFd.im
  unfold codeV2 funV insV2 at hopd
  obtain ⟨e, he⟩ : ∃ e, Cd.opd C f first x = e := ⟨_, rfl⟩
  rw [he] at hopd ho hret
  clear hc hF hFd he
  conv => arg 2; whnf
  go_upto_region 4 with (fail)
  refine wp_region_held_drew (S := (fun w' => w'.cell? ⟨cB, 0, none⟩ = some (.string ⟨C.shape.toArray⟩) ∧ w'.cell? ⟨cB, 1, none⟩ = some (vb) ∧ w'.cell? ⟨cB, 2, none⟩ = some (vc) ∧ w'.cell? ⟨cB, 3, none⟩ = some (vd) ∧ w'.cell? ⟨fB, 0, none⟩ = some (.int .i64 f.free) ∧ w'.cell? ⟨fB, 1, none⟩ = some (.int .i64 f.slots) ∧ w'.cell? ⟨fB, 2, none⟩ = some (.slice (some ⟨gv, kv, none⟩) f.ins.length cv) ∧ w'.cell? ⟨gv, kv + i * 4, none⟩ = some (.int .i64 x.op) ∧ w'.cell? ⟨gv, kv + i * 4 + 1, none⟩ = some (.int .i64 x.a) ∧ w'.cell? ⟨gv, kv + i * 4 + 2, none⟩ = some (.int .i64 x.b) ∧ w'.cell? ⟨gv, kv + i * 4 + 3, none⟩ = some (.int .i64 x.n))) (by kernel_rfl) (by first | trivial | ((try dsimp only); go_keep)) (fun hHeld => ?_)
  refine wpAnyH_take (i := 0) (v := ?vvs8010) rfl (by kernel_rfl) (by kernel_rfl) (by kernel_rfl) (fun c9 a9 w9 h9 => hQ0 c9 (a9.put _ _) a9 w9 (by rfl) h9) (Or.inl ⟨by rfl, ?yys8010⟩) (by assumption) ?rrs8010
  case yys8010 => (intro w' hSw; (try dsimp only at hSw); go_simp; (try with_reducible rfl))
  try simp only [Act.put, List.setIfInBounds_toArray, List.set_cons_zero, List.set_cons_succ]
  refine wpAnyH_take (i := 1) (v := ?vvs8011) rfl (by kernel_rfl) (by kernel_rfl) (by kernel_rfl) (fun c9 a9 w9 h9 => hQ0 c9 (a9.put _ _) a9 w9 (by rfl) h9) (Or.inl ⟨by rfl, ?yys8011⟩) (by assumption) ?rrs8011
  case yys8011 => (intro w' hSw; (try dsimp only at hSw); go_simp; (try with_reducible rfl))
  try simp only [Act.put, List.setIfInBounds_toArray, List.set_cons_zero, List.set_cons_succ]
  refine wpAnyH_take (i := 2) (v := ?vvs8012) rfl (by kernel_rfl) (by kernel_rfl) (by kernel_rfl) (fun c9 a9 w9 h9 => hQ0 c9 (a9.put _ _) a9 w9 (by rfl) h9) (Or.inl ⟨by rfl, ?yys8012⟩) (by assumption) ?rrs8012
  case yys8012 => (intro w' hSw; (try dsimp only at hSw); go_simp; (try with_reducible rfl))
  try simp only [Act.put, List.setIfInBounds_toArray, List.set_cons_zero, List.set_cons_succ]
  refine wpAnyH_take (i := 3) (v := ?vvs8013) rfl (by kernel_rfl) (by kernel_rfl) (by kernel_rfl) (fun c9 a9 w9 h9 => hQ0 c9 (a9.put _ _) a9 w9 (by rfl) h9) (Or.inl ⟨by rfl, ?yys8013⟩) (by assumption) ?rrs8013
  case yys8013 => (intro w' hSw; (try dsimp only at hSw); go_simp; (try with_reducible rfl))
  try simp only [Act.put, List.setIfInBounds_toArray, List.set_cons_zero, List.set_cons_succ]
  refine wpAnyH_take (i := 4) (v := ?vvs8014) rfl (by kernel_rfl) (by kernel_rfl) (by kernel_rfl) (fun c9 a9 w9 h9 => hQ0 c9 (a9.put _ _) a9 w9 (by rfl) h9) (Or.inl ⟨by rfl, ?yys8014⟩) (by assumption) ?rrs8014
  case yys8014 => (intro w' hSw; (try dsimp only at hSw); go_simp; (try with_reducible rfl))
  try simp only [Act.put, List.setIfInBounds_toArray, List.set_cons_zero, List.set_cons_succ]
  refine wpAnyH_take (i := 5) (v := ?vvs8015) rfl (by kernel_rfl) (by kernel_rfl) (by kernel_rfl) (fun c9 a9 w9 h9 => hQ0 c9 (a9.put _ _) a9 w9 (by rfl) h9) (Or.inl ⟨by rfl, ?yys8015⟩) (by assumption) ?rrs8015
  case yys8015 => (intro w' hSw; (try dsimp only at hSw); go_simp; (try with_reducible rfl))
  try simp only [Act.put, List.setIfInBounds_toArray, List.set_cons_zero, List.set_cons_succ]
  refine wpAnyH_take (i := 6) (v := ?vvs8016) rfl (by kernel_rfl) (by kernel_rfl) (by kernel_rfl) (fun c9 a9 w9 h9 => hQ0 c9 (a9.put _ _) a9 w9 (by rfl) h9) (Or.inl ⟨by rfl, ?yys8016⟩) (by assumption) ?rrs8016
  case yys8016 => (intro w' hSw; (try dsimp only at hSw); go_simp; (try with_reducible rfl))
  try simp only [Act.put, List.setIfInBounds_toArray, List.set_cons_zero, List.set_cons_succ]
  refine wpAnyH_take (i := 7) (v := ?vvs8017) rfl (by kernel_rfl) (by kernel_rfl) (by kernel_rfl) (fun c9 a9 w9 h9 => hQ0 c9 (a9.put _ _) a9 w9 (by rfl) h9) (Or.inl ⟨by rfl, ?yys8017⟩) (by assumption) ?rrs8017
  case yys8017 => (intro w' hSw; (try dsimp only at hSw); go_simp; (try with_reducible rfl))
  try simp only [Act.put, List.setIfInBounds_toArray, List.set_cons_zero, List.set_cons_succ]
  refine wpAnyH_ready (rs := [8]) (by kernel_rfl) (by simp) (AllReadyH.cons rfl (fun K hK => ?_) AllReadyH.nil)
  go_simp
  refine hopd.mono ?_
  clear hopd
  rintro e w9 ⟨rfl, hb9⟩
  have k0 := (hb9.cell (p := ⟨cB, 0, none⟩) (World.block_lt_of_cell? wr _ c0)).trans c0
  have k1 := (hb9.cell (p := ⟨cB, 1, none⟩) (World.block_lt_of_cell? wr _ c1)).trans c1
  have k2 := (hb9.cell (p := ⟨cB, 2, none⟩) (World.block_lt_of_cell? wr _ c2)).trans c2
  have k3 := (hb9.cell (p := ⟨cB, 3, none⟩) (World.block_lt_of_cell? wr _ c3)).trans c3
  have k4 := (hb9.cell (p := ⟨fB, 0, none⟩) (World.block_lt_of_cell? wr _ c4)).trans c4
  have k5 := (hb9.cell (p := ⟨fB, 1, none⟩) (World.block_lt_of_cell? wr _ c5)).trans c5
  have k6 := (hb9.cell (p := ⟨fB, 2, none⟩) (World.block_lt_of_cell? wr _ c6)).trans c6
  have k7 := (hb9.cell (p := ⟨gv, kv + i * 4, none⟩) (World.block_lt_of_cell? wr _ c7)).trans c7
  have k8 := (hb9.cell (p := ⟨gv, kv + i * 4 + 1, none⟩) (World.block_lt_of_cell? wr _ c8)).trans c8
  have k9 := (hb9.cell (p := ⟨gv, kv + i * 4 + 2, none⟩) (World.block_lt_of_cell? wr _ c9)).trans c9
  have k10 := (hb9.cell (p := ⟨gv, kv + i * 4 + 3, none⟩) (World.block_lt_of_cell? wr _ c10)).trans c10
  dsimp only
  clear hHeld
  refine hK.out _ _ ?hs (fun hHeld => ?_)
  case hs => (first | trivial | ((try dsimp only); go_keep) | ((try dsimp only); simp [*, World.cell?_alloc_some, World.cell?_setCell_far, World.cell?_setCell_other]))
  clear hK K
  try simp only [Act.put, List.setIfInBounds_toArray, List.set_cons_zero, List.set_cons_succ]
  refine wpAnyH_take (i := 9) (v := ?vvs8018) rfl (by kernel_rfl) (by kernel_rfl) (by kernel_rfl) (fun c9 a9 w9 h9 => hQ0 c9 (a9.put _ _) a9 w9 (by rfl) h9) (Or.inl ⟨by rfl, ?yys8018⟩) (by assumption) ?rrs8018
  case yys8018 => (intro w' hSw; (try dsimp only at hSw); go_simp; (try with_reducible rfl))
  try simp only [Act.put, List.setIfInBounds_toArray, List.set_cons_zero, List.set_cons_succ]
  refine wpAnyH_done (by kernel_rfl) ?_ _
  clear hHeld
  have hob : (e == 0) = false := by simpa using ho
  go_wp2
  exact hret _ _ rfl rfl rfl (below_undrew hb9)
end Go.Proofs.YtpjbfdpblgjmfaaGreatDoor
