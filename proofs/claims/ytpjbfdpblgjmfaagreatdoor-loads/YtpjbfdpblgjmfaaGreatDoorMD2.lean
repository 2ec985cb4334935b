/-
  A round of Decode's loop over the operations.
  Decode's loop over the operations.
  A handler or a function under way: its block, and its row.
-/
import Derived.Test.YtpjbfdpblgjmfaaGreatDoorMDa
set_option linter.unusedVariables false
set_option linter.unusedSimpArgs false
namespace Go.Proofs.YtpjbfdpblgjmfaaGreatDoor
open Go.RowKit

theorem cb_after {w4 w5 : World} {cb i : Nat} {cs : Array Value} {T : TypeId} {X : Obj} {u z : Value} (h : w4.heap[cb]? = some (.cells cs T (0, 0))) (hl : cb < w4.heap.size) (hne : u.ownBlock ≠ some cb) (hg : (w4.alloc X).grownBy w5 u.ownBlock) (hz : cs[i]? = some z) :
    w5.cell? ⟨cb, i, none⟩ = some z ∧ w5.frozen? ⟨cb, i, none⟩ = false := by
  have hb : w5.heap[cb]? = some (.cells cs T (0, 0)) := (hg.block cb (by simp; omega) (fun e => hne e.symm)).trans (blk_alloc h)
  exact ⟨by simp [World.cell?, hb, hz], by simp [World.frozen?, hb]⟩
set_option maxRecDepth 100000 in
set_option maxHeartbeats 8000000 in
theorem roundOps_a {w0 wr : World} {s : List UInt8} {g : Dg} {n i k : Nat} {r1 r2 r3 : Cd.Rd} {t : List UInt8} {o : Bool} (F G : Nat → Value) (Q0 : Exit → Act → World → Prop) (h4 : F 4 = .pointer (some ⟨g.b, 0, none⟩)) (h7 : F 7 = .pointer (some ⟨g.cb, 0, none⟩)) (h8 : F 8 = .int .i64 (n : Nat))
    (hs : s.length ≤ 4000000) (hm : Dm w0 s g wr) (hi : i < n) (hn : n ≤ 255) (hf : g.r.fk = 0) (hos : g.os.length ≤ i) (hk : g.r.num s 1 = (k, r1)) (h20 : ¬ 20 < k) (ht : r1.text s k = (t, r2)) (ho : r2.flag s = (o, r3)) :
    Code.wp Tryz.prog ((Tryz.f15.body.map (fun c => (loopsOf c).getD 1 .skip)).getD .skip) (Exit.then (fun a' w' => FrK [0, 2, 3, 4, 7, 8] F a' ∧ a'.tmps[9]? = some (.int .i64 ((i : Int) + 1)) ∧ ∃ v, Dm w0 s { g with r := r3, vo := v, os := g.os ++ [⟨t, o⟩] } w') Q0) ⟨#[F 0, G 1, F 2, F 3, .pointer (some ⟨g.b, 0, none⟩), G 5, G 6, .pointer (some ⟨g.cb, 0, none⟩), .int .i64 (n : Nat), .int .i64 (i : Nat), G 10, G 11, G 12, G 13, G 14, G 15, G 16, G 17, G 18, G 19, G 20, G 21, G 22, G 23, G 24, G 25, G 26, G 27, G 28, G 29, G 30, G 31, G 32, G 33, G 34, G 35, G 36, G 37, G 38, G 39, G 40, G 41, G 42, G 43, G 44, G 45, G 46, G 47, G 48, G 49, G 50, G 51, G 52, G 53, G 54, G 55, G 56, G 57, G 58, G 59, G 60, G 61, G 62, G 63, G 64, G 65, G 66, G 67, G 68, G 69, G 70, G 71, G 72, G 73, G 74, G 75, G 76, G 77, G 78, G 79, G 80, G 81, G 82, G 83, G 84, G 85, G 86, G 87, G 88, G 89, G 90, G 91, G 92, G 93, G 94, G 95, G 96, G 97, G 98, G 99, G 100, G 101, G 102, G 103, G 104, G 105, G 106, G 107, G 108, G 109, G 110, G 111, G 112, G 113, G 114, G 115, G 116, G 117, G 118, G 119, G 120, G 121, G 122, G 123, G 124, G 125, G 126, G 127, G 128, G 129, G 130, G 131, G 132, G 133, G 134, G 135, G 136, G 137, G 138, G 139, G 140, G 141, G 142, G 143, G 144, G 145, G 146, G 147, G 148, G 149, G 150, G 151, G 152, G 153, G 154, G 155, G 156, G 157, G 158, G 159, G 160, G 161, G 162, G 163, G 164, G 165, G 166, G 167, G 168, G 169, G 170, G 171, G 172, G 173, G 174, G 175, G 176, G 177, G 178, G 179, G 180, G 181, G 182, G 183, G 184, G 185, G 186, G 187, G 188, G 189, G 190, G 191, G 192, G 193, G 194, G 195], []⟩ wr := by
  have hi1 : (i : Int) < (n : Int) := by omega
  have hw : IntKind.i64.wrap ((i : Int) + 1) = (i : Int) + 1 := IntWalk.i64_in _ (by omega)
  have hk256 : k < 256 := by have := Cd.num_one_lt s g.r; rw [hk] at this; exact this
  have hnum := hm.num hs 1 (by omega)
  rw [sgn_one, hk] at hnum
  have hok := hm.ok
  rw [show decide (g.r.fk = 0) = true by simp [hf]] at hok
  unfold ptrV at hnum hok
  have hkt : ¬ ((20 : Int) < (k : Int)) := by omega
  replace hk := hid hk
  replace ht := hid ht
  replace ho := hid ho
  conv => arg 2; whnf
  go_upto_region 23 with (first
    | (go_at_call 34; refine hok.mono ?_; clear hok; rintro e wr ⟨rfl, rfl⟩; dsimp only)
    | (go_at_call 33; refine hnum.mono ?_; clear hnum; rintro e w1 ⟨rfl, hm1, _⟩; have htx := hm1.text hs k (by omega); unfold ptrV at htx; dsimp only at htx; rw [ht.out] at htx; dsimp only)
    | (go_at_call 32; refine htx.mono ?_; clear htx; rintro e w3 ⟨rfl, hm3, _⟩; have hfl := hm3.flag hs; unfold ptrV at hfl; dsimp only at hfl; rw [ho.out] at hfl; dsimp only)
    | (go_at_call 35; refine hfl.mono ?_; clear hfl; rintro e w4 ⟨rfl, hm4, _⟩; dsimp only))
  have hcb4 : w4.heap[g.cb]? = some (.cells #[.string ⟨g.sh.toArray⟩, g.vo, g.vh, g.vf] 38 (0, 0)) := hm4.c
  have hr4 : w4.ownsRow 0 119 2 g.vo g.os.length (g.os.flatMap opC) := hm4.ro
  have hne4 : g.vo.ownBlock ≠ some g.cb := fun e => by have := hm4.own.dj 2 1 g.cb e rfl; omega
  obtain ⟨va, vc, hvo, _⟩ := row_slice hr4
  have c4 : w4.cell? ⟨g.cb, 1, none⟩ = some (.slice va g.os.length vc) := by simp [World.cell?, hcb4, hvo]
  have hr4s := hr4
  rw [hvo] at hr4s
  have hrA : (w4.alloc (.cells #[.string ⟨t.toArray⟩, .bool o] 119)).ownsRow 0 119 2 (.slice va g.os.length vc) g.os.length (g.os.flatMap opC) := ownsRow_keep hr4s (fun k hk => (Ch.alloc (fun _ => False) w4 _).same k (ownsRow_lt hr4s hk) (fun h => h))
  have hAc := new_cells w4 [.string ⟨t.toArray⟩, .bool o] 119
  have hcbl : g.cb < w4.heap.size := hm4.own.lt 1 g.cb rfl
  replace hvo := hid hvo
  replace hm4 := hid hm4
  clear hm hm1 hm3 hr4
  go_upto_region 17 with (at_builtin; go_must (refine list_append rfl (.tmp 83) (.tmp 87) 34 rfl 119 (.agg #[.string ⟨#[]⟩, .bool false]) 2 24 Tryz.underlying34 Tryz.infoOp rfl (by decide) (.slice va g.os.length vc) g.os.length (g.os.flatMap opC) rfl hrA ⟨w4.heap.size, 0, none⟩ 1 1 [.string ⟨t.toArray⟩, .bool o] rfl rfl hAc (by simp [Value.oneCell']) (by unfold maxLen; omega) (by omega) ?_); intro v5 w5 hrow5 hgrow5 hblk5; obtain ⟨g5, c5, rfl⟩ := ownsRow_succ hrow5; obtain ⟨d5, df5⟩ := cb_after (i := 1) hcb4 hcbl (show (Value.slice va g.os.length vc).ownBlock ≠ some g.cb by rw [← hvo.out]; exact hne4) hgrow5 rfl)
  have hfin := hm4.out.pushOp (x := ⟨t, o⟩) (v' := .slice (some ⟨g5, 0, none⟩) (g.os.length + 1) c5) (w1 := w5) (by simpa [opC] using hrow5) (by rw [hvo.out]; exact app_ch (Ch.alloc _ _ _) hgrow5) (by rw [hvo.out]; exact app_more (Ch.alloc _ w4 _) hblk5)
  go_wp2
  refine ⟨⟨rfl, rfl, fun x9 hx9 => ?_⟩, _, hfin⟩
  simp only [List.mem_cons, List.not_mem_nil, or_false] at hx9
  rcases hx9 with rfl | rfl | rfl | rfl | rfl | rfl
  all_goals first
    | rfl
    | exact congrArg some h4.symm
    | exact congrArg some h7.symm
    | exact congrArg some h8.symm
set_option maxRecDepth 100000 in
set_option maxHeartbeats 8000000 in
theorem roundOps_b {w0 wr : World} {s : List UInt8} {g : Dg} {n i k : Nat} {r1 r2 r3 : Cd.Rd} {t : List UInt8} {o : Bool} (F G : Nat → Value) (Q0 : Exit → Act → World → Prop) (h4 : F 4 = .pointer (some ⟨g.b, 0, none⟩)) (h7 : F 7 = .pointer (some ⟨g.cb, 0, none⟩)) (h8 : F 8 = .int .i64 (n : Nat))
    (hs : s.length ≤ 4000000) (hm : Dm w0 s g wr) (hi : i < n) (hn : n ≤ 255) (hf : g.r.fk = 0) (hos : g.os.length ≤ i) (hk : g.r.num s 1 = (k, r1)) (h20 : 20 < k) (ht : (r1.no 14 (r1.pos - 1)).text s k = (t, r2)) (ho : r2.flag s = (o, r3)) :
    Code.wp Tryz.prog ((Tryz.f15.body.map (fun c => (loopsOf c).getD 1 .skip)).getD .skip) (Exit.then (fun a' w' => FrK [0, 2, 3, 4, 7, 8] F a' ∧ a'.tmps[9]? = some (.int .i64 ((i : Int) + 1)) ∧ ∃ v, Dm w0 s { g with r := r3, vo := v, os := g.os ++ [⟨t, o⟩] } w') Q0) ⟨#[F 0, G 1, F 2, F 3, .pointer (some ⟨g.b, 0, none⟩), G 5, G 6, .pointer (some ⟨g.cb, 0, none⟩), .int .i64 (n : Nat), .int .i64 (i : Nat), G 10, G 11, G 12, G 13, G 14, G 15, G 16, G 17, G 18, G 19, G 20, G 21, G 22, G 23, G 24, G 25, G 26, G 27, G 28, G 29, G 30, G 31, G 32, G 33, G 34, G 35, G 36, G 37, G 38, G 39, G 40, G 41, G 42, G 43, G 44, G 45, G 46, G 47, G 48, G 49, G 50, G 51, G 52, G 53, G 54, G 55, G 56, G 57, G 58, G 59, G 60, G 61, G 62, G 63, G 64, G 65, G 66, G 67, G 68, G 69, G 70, G 71, G 72, G 73, G 74, G 75, G 76, G 77, G 78, G 79, G 80, G 81, G 82, G 83, G 84, G 85, G 86, G 87, G 88, G 89, G 90, G 91, G 92, G 93, G 94, G 95, G 96, G 97, G 98, G 99, G 100, G 101, G 102, G 103, G 104, G 105, G 106, G 107, G 108, G 109, G 110, G 111, G 112, G 113, G 114, G 115, G 116, G 117, G 118, G 119, G 120, G 121, G 122, G 123, G 124, G 125, G 126, G 127, G 128, G 129, G 130, G 131, G 132, G 133, G 134, G 135, G 136, G 137, G 138, G 139, G 140, G 141, G 142, G 143, G 144, G 145, G 146, G 147, G 148, G 149, G 150, G 151, G 152, G 153, G 154, G 155, G 156, G 157, G 158, G 159, G 160, G 161, G 162, G 163, G 164, G 165, G 166, G 167, G 168, G 169, G 170, G 171, G 172, G 173, G 174, G 175, G 176, G 177, G 178, G 179, G 180, G 181, G 182, G 183, G 184, G 185, G 186, G 187, G 188, G 189, G 190, G 191, G 192, G 193, G 194, G 195], []⟩ wr := by
  have hi1 : (i : Int) < (n : Int) := by omega
  have hw : IntKind.i64.wrap ((i : Int) + 1) = (i : Int) + 1 := IntWalk.i64_in _ (by omega)
  have hk256 : k < 256 := by have := Cd.num_one_lt s g.r; rw [hk] at this; exact this
  have hnum := hm.num hs 1 (by omega)
  rw [sgn_one, hk] at hnum
  have hok := hm.ok
  rw [show decide (g.r.fk = 0) = true by simp [hf]] at hok
  unfold ptrV at hnum hok
  have hkt : (20 : Int) < (k : Int) := by omega
  have hp1 : 1 ≤ r1.pos := by have := num_pos1 s g.r (by rw [hk]; omega); rw [hk] at this; exact this
  replace hk := hid hk
  replace ht := hid ht
  replace ho := hid ho
  conv => arg 2; whnf
  go_upto_region 23 with (first
    | (go_at_call 34; refine hok.mono ?_; clear hok; rintro e wr ⟨rfl, rfl⟩; dsimp only)
    | (go_at_call 33; refine hnum.mono ?_; clear hnum; rintro e w1 ⟨rfl, hm1, _⟩; have hcp := hm1.rd.cells.2.1; have hwp : IntKind.i64.wrap ((r1.pos : Int) - 1) = ((r1.pos - 1 : Nat) : Int) := (by have := hm1.pos; rw [IntWalk.i64_in _ (by simp at *; omega)]; omega); have hno := hm1.no 14 (r1.pos - 1); unfold ptrV at hno; dsimp only)
    | (go_at_call 31; refine hno.mono ?_; clear hno; rintro e w2 ⟨rfl, hm2, _⟩; have htx := hm2.text hs k (by omega); unfold ptrV at htx; dsimp only at htx; rw [ht.out] at htx; dsimp only)
    | (go_at_call 32; refine htx.mono ?_; clear htx; rintro e w3 ⟨rfl, hm3, _⟩; have hfl := hm3.flag hs; unfold ptrV at hfl; dsimp only at hfl; rw [ho.out] at hfl; dsimp only)
    | (go_at_call 35; refine hfl.mono ?_; clear hfl; rintro e w4 ⟨rfl, hm4, _⟩; dsimp only))
  have hcb4 : w4.heap[g.cb]? = some (.cells #[.string ⟨g.sh.toArray⟩, g.vo, g.vh, g.vf] 38 (0, 0)) := hm4.c
  have hr4 : w4.ownsRow 0 119 2 g.vo g.os.length (g.os.flatMap opC) := hm4.ro
  have hne4 : g.vo.ownBlock ≠ some g.cb := fun e => by have := hm4.own.dj 2 1 g.cb e rfl; omega
  obtain ⟨va, vc, hvo, _⟩ := row_slice hr4
  have c4 : w4.cell? ⟨g.cb, 1, none⟩ = some (.slice va g.os.length vc) := by simp [World.cell?, hcb4, hvo]
  have hr4s := hr4
  rw [hvo] at hr4s
  have hrA : (w4.alloc (.cells #[.string ⟨t.toArray⟩, .bool o] 119)).ownsRow 0 119 2 (.slice va g.os.length vc) g.os.length (g.os.flatMap opC) := ownsRow_keep hr4s (fun k hk => (Ch.alloc (fun _ => False) w4 _).same k (ownsRow_lt hr4s hk) (fun h => h))
  have hAc := new_cells w4 [.string ⟨t.toArray⟩, .bool o] 119
  have hcbl : g.cb < w4.heap.size := hm4.own.lt 1 g.cb rfl
  replace hvo := hid hvo
  replace hm4 := hid hm4
  clear hm hm1 hm3 hm2 hcp hwp hr4
  go_upto_region 17 with (at_builtin; go_must (refine list_append rfl (.tmp 83) (.tmp 87) 34 rfl 119 (.agg #[.string ⟨#[]⟩, .bool false]) 2 24 Tryz.underlying34 Tryz.infoOp rfl (by decide) (.slice va g.os.length vc) g.os.length (g.os.flatMap opC) rfl hrA ⟨w4.heap.size, 0, none⟩ 1 1 [.string ⟨t.toArray⟩, .bool o] rfl rfl hAc (by simp [Value.oneCell']) (by unfold maxLen; omega) (by omega) ?_); intro v5 w5 hrow5 hgrow5 hblk5; obtain ⟨g5, c5, rfl⟩ := ownsRow_succ hrow5; obtain ⟨d5, df5⟩ := cb_after (i := 1) hcb4 hcbl (show (Value.slice va g.os.length vc).ownBlock ≠ some g.cb by rw [← hvo.out]; exact hne4) hgrow5 rfl)
  have hfin := hm4.out.pushOp (x := ⟨t, o⟩) (v' := .slice (some ⟨g5, 0, none⟩) (g.os.length + 1) c5) (w1 := w5) (by simpa [opC] using hrow5) (by rw [hvo.out]; exact app_ch (Ch.alloc _ _ _) hgrow5) (by rw [hvo.out]; exact app_more (Ch.alloc _ w4 _) hblk5)
  go_wp2
  refine ⟨⟨rfl, rfl, fun x9 hx9 => ?_⟩, _, hfin⟩
  simp only [List.mem_cons, List.not_mem_nil, or_false] at hx9
  rcases hx9 with rfl | rfl | rfl | rfl | rfl | rfl
  all_goals first
    | rfl
    | exact congrArg some h4.symm
    | exact congrArg some h7.symm
    | exact congrArg some h8.symm
end Go.Proofs.YtpjbfdpblgjmfaaGreatDoor

namespace Go.Proofs.YtpjbfdpblgjmfaaGreatDoor
open Go.RowKit

set_option maxRecDepth 100000 in
set_option maxHeartbeats 8000000 in
theorem roundOps_exit_a {w0 wr : World} {s : List UInt8} {g : Dg} {n i hb : Nat} (F G : Nat → Value) (Q0 : Exit → Act → World → Prop) (J : Act → World → Prop) (h4 : F 4 = .pointer (some ⟨g.b, 0, none⟩)) (h7 : F 7 = .pointer (some ⟨g.cb, 0, none⟩)) (h8 : F 8 = .int .i64 (n : Nat))
    (hm : Dm w0 s g wr) (hi : ¬ i < n) (hexit : ∀ a', FrK [0, 2, 3, 4, 7, 8] F a' → Q0 (.exit 2) a' wr) :
    Code.wp Tryz.prog ((Tryz.f15.body.map (fun c => (loopsOf c).getD 1 .skip)).getD .skip) (Exit.then J Q0) ⟨#[F 0, G 1, F 2, F 3, .pointer (some ⟨g.b, 0, none⟩), G 5, G 6, .pointer (some ⟨g.cb, 0, none⟩), .int .i64 (n : Nat), .int .i64 (i : Nat), G 10, G 11, G 12, G 13, G 14, G 15, G 16, G 17, G 18, G 19, G 20, G 21, G 22, G 23, G 24, G 25, G 26, G 27, G 28, G 29, G 30, G 31, G 32, G 33, G 34, G 35, G 36, G 37, G 38, G 39, G 40, G 41, G 42, G 43, G 44, G 45, G 46, G 47, G 48, G 49, G 50, G 51, G 52, G 53, G 54, G 55, G 56, G 57, G 58, G 59, G 60, G 61, G 62, G 63, G 64, G 65, G 66, G 67, G 68, G 69, G 70, G 71, G 72, G 73, G 74, G 75, G 76, G 77, G 78, G 79, G 80, G 81, G 82, G 83, G 84, G 85, G 86, G 87, G 88, G 89, G 90, G 91, G 92, G 93, G 94, G 95, G 96, G 97, G 98, G 99, G 100, G 101, G 102, G 103, G 104, G 105, G 106, G 107, G 108, G 109, G 110, G 111, G 112, G 113, G 114, G 115, G 116, G 117, G 118, G 119, G 120, G 121, G 122, G 123, G 124, G 125, G 126, G 127, G 128, G 129, G 130, G 131, G 132, G 133, G 134, G 135, G 136, G 137, G 138, G 139, G 140, G 141, G 142, G 143, G 144, G 145, G 146, G 147, G 148, G 149, G 150, G 151, G 152, G 153, G 154, G 155, G 156, G 157, G 158, G 159, G 160, G 161, G 162, G 163, G 164, G 165, G 166, G 167, G 168, G 169, G 170, G 171, G 172, G 173, G 174, G 175, G 176, G 177, G 178, G 179, G 180, G 181, G 182, G 183, G 184, G 185, G 186, G 187, G 188, G 189, G 190, G 191, G 192, G 193, G 194, G 195], []⟩ wr := by
  have hi1 : ¬ ((i : Int) < (n : Int)) := by omega
  clear hi
  conv => arg 2; whnf
  go_wp2
  refine ⟨rfl, rfl, fun x9 hx9 => ?_⟩
  simp only [List.mem_cons, List.not_mem_nil, or_false] at hx9
  rcases hx9 with rfl | rfl | rfl | rfl | rfl | rfl
  all_goals first
    | rfl
    | exact congrArg some h4.symm
    | exact congrArg some h7.symm
    | exact congrArg some h8.symm
set_option maxRecDepth 100000 in
set_option maxHeartbeats 8000000 in
theorem roundOps_exit_b {w0 wr : World} {s : List UInt8} {g : Dg} {n i hb : Nat} (F G : Nat → Value) (Q0 : Exit → Act → World → Prop) (J : Act → World → Prop) (h4 : F 4 = .pointer (some ⟨g.b, 0, none⟩)) (h7 : F 7 = .pointer (some ⟨g.cb, 0, none⟩)) (h8 : F 8 = .int .i64 (n : Nat))
    (hm : Dm w0 s g wr) (hi : i < n) (hf : ¬ g.r.fk = 0) (hexit : ∀ a', FrK [0, 2, 3, 4, 7, 8] F a' → Q0 (.exit 2) a' wr) :
    Code.wp Tryz.prog ((Tryz.f15.body.map (fun c => (loopsOf c).getD 1 .skip)).getD .skip) (Exit.then J Q0) ⟨#[F 0, G 1, F 2, F 3, .pointer (some ⟨g.b, 0, none⟩), G 5, G 6, .pointer (some ⟨g.cb, 0, none⟩), .int .i64 (n : Nat), .int .i64 (i : Nat), G 10, G 11, G 12, G 13, G 14, G 15, G 16, G 17, G 18, G 19, G 20, G 21, G 22, G 23, G 24, G 25, G 26, G 27, G 28, G 29, G 30, G 31, G 32, G 33, G 34, G 35, G 36, G 37, G 38, G 39, G 40, G 41, G 42, G 43, G 44, G 45, G 46, G 47, G 48, G 49, G 50, G 51, G 52, G 53, G 54, G 55, G 56, G 57, G 58, G 59, G 60, G 61, G 62, G 63, G 64, G 65, G 66, G 67, G 68, G 69, G 70, G 71, G 72, G 73, G 74, G 75, G 76, G 77, G 78, G 79, G 80, G 81, G 82, G 83, G 84, G 85, G 86, G 87, G 88, G 89, G 90, G 91, G 92, G 93, G 94, G 95, G 96, G 97, G 98, G 99, G 100, G 101, G 102, G 103, G 104, G 105, G 106, G 107, G 108, G 109, G 110, G 111, G 112, G 113, G 114, G 115, G 116, G 117, G 118, G 119, G 120, G 121, G 122, G 123, G 124, G 125, G 126, G 127, G 128, G 129, G 130, G 131, G 132, G 133, G 134, G 135, G 136, G 137, G 138, G 139, G 140, G 141, G 142, G 143, G 144, G 145, G 146, G 147, G 148, G 149, G 150, G 151, G 152, G 153, G 154, G 155, G 156, G 157, G 158, G 159, G 160, G 161, G 162, G 163, G 164, G 165, G 166, G 167, G 168, G 169, G 170, G 171, G 172, G 173, G 174, G 175, G 176, G 177, G 178, G 179, G 180, G 181, G 182, G 183, G 184, G 185, G 186, G 187, G 188, G 189, G 190, G 191, G 192, G 193, G 194, G 195], []⟩ wr := by
  have hi1 : (i : Int) < (n : Int) := by omega
  have hok := hm.ok
  rw [show decide (g.r.fk = 0) = false by simp [hf]] at hok
  unfold ptrV at hok
  clear hi
  conv => arg 2; whnf
  go_wp2_with (go_at_call 34; refine hok.mono ?_; clear hok; rintro e wr ⟨rfl, rfl⟩; dsimp only)
  refine ⟨rfl, rfl, fun x9 hx9 => ?_⟩
  simp only [List.mem_cons, List.not_mem_nil, or_false] at hx9
  rcases hx9 with rfl | rfl | rfl | rfl | rfl | rfl
  all_goals first
    | rfl
    | exact congrArg some h4.symm
    | exact congrArg some h7.symm
    | exact congrArg some h8.symm
theorem loopOps {w0 W : World} {s : List UInt8} {g : Dg} {n : Nat} (F : Nat → Value) (Q0 : Exit → Act → World → Prop) (h4 : F 4 = .pointer (some ⟨g.b, 0, none⟩)) (h7 : F 7 = .pointer (some ⟨g.cb, 0, none⟩)) (h8 : F 8 = .int .i64 (n : Nat)) (hs : s.length ≤ 4000000) (hn : n ≤ 255) (hm : Dm w0 s g W) (hos : g.os = []) (a0 : Act) (hfr : FrK [0, 2, 3, 4, 7, 8] F a0) (h9 : a0.tmps[9]? = some (.int .i64 0))
    (hexit : ∀ a' w' v, FrK [0, 2, 3, 4, 7, 8] F a' → Dm w0 s { g with r := (g.r.opsL s n).2, vo := v, os := (g.r.opsL s n).1 } w' → Q0 (.exit 2) a' w') : Code.wp Tryz.prog (Code.loop ((Tryz.f15.body.map (fun c => (loopsOf c).getD 1 .skip)).getD .skip)) Q0 a0 W := by
  refine wp_loop (fun a w => ∃ (i : Nat) (r : Cd.Rd) (v : Value) (os : List Cd.Op), i ≤ n ∧ os.length ≤ i ∧ FrK [0, 2, 3, 4, 7, 8] F a ∧ a.tmps[9]? = some (.int .i64 (i : Nat)) ∧ Dm w0 s { g with r := r, vo := v, os := os } w ∧ g.r.opsL s n = (os ++ (r.opsL s (n - i)).1, (r.opsL s (n - i)).2)) (fun a _ => n - (intOf (a.tmps.getD 9 undef)).toNat) ⟨0, g.r, g.vo, [], Nat.zero_le _, Nat.le_refl _, hfr, h9, by rw [← hos]; exact hm, by simp⟩ ?_
  rintro a w ⟨i, r, v, os, hi, hol, hf, hi9, hd, hrel⟩
  have hmu : (intOf (a.tmps.getD 9 undef)).toNat = i := by simp [Array.getD_eq_getD_getElem?, hi9, intOf]
  rw [hmu]
  obtain ⟨G, rfl, hG⟩ := act_open hf.sz hf.df
  have hout : (¬ i < n ∨ ¬ r.fk = 0) → ∀ a', FrK [0, 2, 3, 4, 7, 8] F a' → Q0 (.exit 2) a' w := fun hw a' hk => by
    have e : r.opsL s (n - i) = ([], r) := by
      rcases hw with e | e
      · rw [show n - i = 0 by omega]; rfl
      · cases hni : n - i with
        | zero => rfl
        | succ j => simp [Cd.Rd.opsL, e]
    rw [e] at hrel
    refine hexit a' w v hk ?_
    rw [hrel]
    simpa using hd
  have f0 : G 0 = F 0 := hG 0 _ (hf.k 0 (by simp))
  have f2 : G 2 = F 2 := hG 2 _ (hf.k 2 (by simp))
  have f3 : G 3 = F 3 := hG 3 _ (hf.k 3 (by simp))
  have f4 : G 4 = F 4 := hG 4 _ (hf.k 4 (by simp))
  have f7 : G 7 = F 7 := hG 7 _ (hf.k 7 (by simp))
  have f8 : G 8 = F 8 := hG 8 _ (hf.k 8 (by simp))
  have f9 : G 9 = .int .i64 (i : Nat) := hG 9 _ hi9
  rw [h4] at f4
  rw [h7] at f7
  rw [h8] at f8
  rw [f0, f2, f3, f4, f7, f8, f9]
  clear hG hf hi9
  by_cases hlt : i < n
  · by_cases h0 : r.fk = 0
    · obtain ⟨k, r1, hk⟩ : ∃ k r1, r.num s 1 = (k, r1) := ⟨_, _, rfl⟩
      have hstep : ∀ (q : Cd.Rd) (t : List UInt8) (r2 : Cd.Rd) (o : Bool) (r3 : Cd.Rd), (if 20 < k then r1.no 14 (r1.pos - 1) else r1) = q → q.text s k = (t, r2) → r2.flag s = (o, r3) → g.r.opsL s n = ((os ++ [⟨t, o⟩]) ++ (r3.opsL s (n - (i + 1))).1, (r3.opsL s (n - (i + 1))).2) := fun q t r2 o r3 e1 e2 e3 => by
        rw [hrel, show n - i = (n - (i + 1)) + 1 by omega]
        simp only [Cd.Rd.opsL, if_pos h0, hk, e1, e2, e3]
        simp
      have fin : ∀ (t : List UInt8) (o : Bool) (r3 : Cd.Rd), g.r.opsL s n = ((os ++ [⟨t, o⟩]) ++ (r3.opsL s (n - (i + 1))).1, (r3.opsL s (n - (i + 1))).2) → ∀ a' w', (FrK [0, 2, 3, 4, 7, 8] F a' ∧ a'.tmps[9]? = some (.int .i64 ((i : Int) + 1)) ∧ ∃ v', Dm w0 s { ({ g with r := r, vo := v, os := os } : Dg) with r := r3, vo := v', os := os ++ [⟨t, o⟩] } w') →
          (∃ (i : Nat) (r : Cd.Rd) (v : Value) (os : List Cd.Op), i ≤ n ∧ os.length ≤ i ∧ FrK [0, 2, 3, 4, 7, 8] F a' ∧ a'.tmps[9]? = some (.int .i64 (i : Nat)) ∧ Dm w0 s { g with r := r, vo := v, os := os } w' ∧ g.r.opsL s n = (os ++ (r.opsL s (n - i)).1, (r.opsL s (n - i)).2)) ∧ n - (intOf (a'.tmps.getD 9 undef)).toNat < n - i := by
        rintro t o r3 hr a' w' ⟨b1, b2, v', b3⟩
        refine ⟨⟨i + 1, r3, v', os ++ [⟨t, o⟩], by omega, by simp; omega, b1, by simpa using b2, b3, hr⟩, ?_⟩
        simp only [Array.getD_eq_getD_getElem?, b2, Option.getD_some, intOf]
        omega
      by_cases h20 : 20 < k
      · obtain ⟨t, r2, ht⟩ : ∃ t r2, (r1.no 14 (r1.pos - 1)).text s k = (t, r2) := ⟨_, _, rfl⟩
        obtain ⟨o, r3, ho⟩ : ∃ o r3, r2.flag s = (o, r3) := ⟨_, _, rfl⟩
        refine wp_mono (roundOps_b (g := { g with r := r, vo := v, os := os }) F G Q0 h4 h7 h8 hs hd hlt hn h0 hol hk h20 ht ho) ?_
        intro e a' w' h
        cases e <;> first | exact fin t o r3 (hstep _ t r2 o r3 (if_pos h20) ht ho) a' w' h | exact h
      · obtain ⟨t, r2, ht⟩ : ∃ t r2, r1.text s k = (t, r2) := ⟨_, _, rfl⟩
        obtain ⟨o, r3, ho⟩ : ∃ o r3, r2.flag s = (o, r3) := ⟨_, _, rfl⟩
        refine wp_mono (roundOps_a (g := { g with r := r, vo := v, os := os }) F G Q0 h4 h7 h8 hs hd hlt hn h0 hol hk h20 ht ho) ?_
        intro e a' w' h
        cases e <;> first | exact fin t o r3 (hstep _ t r2 o r3 (if_neg h20) ht ho) a' w' h | exact h
    · exact roundOps_exit_b (hb := 0) (g := { g with r := r, vo := v, os := os }) F G Q0 _ h4 h7 h8 hd hlt h0 (hout (.inr h0))
  · exact roundOps_exit_a (hb := 0) (g := { g with r := r, vo := v, os := os }) F G Q0 _ h4 h7 h8 hd hlt (hout (.inl hlt))
end Go.Proofs.YtpjbfdpblgjmfaaGreatDoor

namespace Go.Proofs.YtpjbfdpblgjmfaaGreatDoor
open Go.RowKit

structure Sst (T : TypeId) (pre : List Value) (e : TypeId) (z : Nat) (w0 : World) (s : List UInt8) (g : Dg) (hb : Nat) (u : Value) (n : Nat) (xs : List Value) (w : World) : Prop where
  m : Dm w0 s { g with X := fun k => k = hb, Y := fun k => u.ownBlock = some k } w
  b : w.heap[hb]? = some (.cells (pre ++ [u]).toArray T (0, 0))
  r : w.ownsRow 0 e z u n xs
section
variable {T : TypeId} {pre : List Value} {e : TypeId} {z : Nat} {w0 w : World} {s : List UInt8} {g : Dg} {hb : Nat} {u : Value} {n : Nat} {xs : List Value}
theorem Sst.read (h : Sst T pre e z w0 s g hb u n xs w) {r' : Cd.Rd} {w' : World} (hm : Dm w0 s { ({ g with X := fun k => k = hb, Y := fun k => u.ownBlock = some k } : Dg) with r := r' } w') (hc : Ch (fun k => k = g.b) w w') : Sst T pre e z w0 s { g with r := r' } hb u n xs w' :=
  ⟨hm, (h.m.own.same (i := 0) (j := 6) (by omega) hc hb rfl).trans h.b, ownsRow_keep h.r (h.m.own.same (i := 0) (j := 7) (by omega) hc)⟩
theorem Sst.quiet (h : Sst T pre e z w0 s g hb u n xs w) {w' : World} (hc : Ch (fun _ => False) w w') : Sst T pre e z w0 s g hb u n xs w' :=
  ⟨h.m.quiet hc, (hc.same hb (h.m.own.lt 6 hb rfl) (fun e => e)).trans h.b, ownsRow_keep h.r (fun k hk => hc.same k (h.m.own.lt 7 k hk) (fun e => e))⟩
theorem Sst.lt (h : Sst T pre e z w0 s g hb u n xs w) : hb < w.heap.size := h.m.own.lt 6 hb rfl
theorem Sst.ne (h : Sst T pre e z w0 s g hb u n xs w) : u.ownBlock ≠ some hb := fun e => by have := h.m.own.dj 7 6 hb e rfl; omega
theorem Sst.push (h : Sst T pre e z w0 s g hb u n xs w) {v' : Value} {w1 : World} {m : Nat} {ys : List Value} (hrow : w1.ownsRow 0 e z v' m ys) (hc : Ch (fun k => u.ownBlock = some k) w w1) (hm : ∀ k, v'.ownBlock = some k → u.ownBlock = some k ∨ w.heap.size ≤ k) :
    Sst T pre e z w0 s g hb v' m ys (w1.setCell ⟨hb, pre.length, none⟩ v') := by
  have m1 : Dm w0 s { g with X := fun k => k = hb, Y := fun k => v'.ownBlock = some k } w1 := h.m.aside 7 (.inr rfl) hc hm (fun k hk => ownsRow_lt hrow hk) rfl
  have hb1 : w1.heap[hb]? = some (.cells (pre ++ [u]).toArray T (0, 0)) := (h.m.own.same (i := 7) (j := 6) (by omega) hc hb rfl).trans h.b
  have hc2 : Ch (fun k => k = hb) w1 (w1.setCell ⟨hb, pre.length, none⟩ v') := Ch.setCell _ _ _ rfl
  have m2 : Dm w0 s { g with X := fun k => k = hb, Y := fun k => v'.ownBlock = some k } (w1.setCell ⟨hb, pre.length, none⟩ v') := m1.aside 6 (.inl rfl) hc2 (fun k hk => .inl hk) (fun k hk => Nat.lt_of_lt_of_le (m1.own.lt 6 k hk) hc2.size) rfl
  refine ⟨m2, ?_, ownsRow_keep hrow (m1.own.same (i := 6) (j := 7) (by omega) hc2)⟩
  rw [blk_set hb1]
  simp
/-- A block of one's own, with no row yet. -/
theorem Dm.begin (h : Dm w0 s g w) {w' : World} (hY : g.Y = fun _ => False) (hT : w'.heap[w.heap.size]? = some (.cells (pre ++ [Value.slice none 0 0]).toArray T (0, 0))) (hc : Ch (fun _ => False) w w') : Sst T pre e z w0 s g w.heap.size (.slice none 0 0) 0 [] w' := by
  have m1 : Dm w0 s { g with X := fun k => k = w.heap.size } w' := h.aside 6 (.inl rfl) (hc.mono (fun _ e => e.elim)) (fun k hk => .inr (by omega)) (fun k hk => by rw [hk]; exact (Array.getElem?_eq_some_iff.1 hT).1) rfl
  refine ⟨?_, hT, World.ownsRow_nil _ _ _ _⟩
  have e1 : ({ g with X := fun k => k = w.heap.size, Y := fun k => (Value.slice none 0 0).ownBlock = some k } : Dg) = { g with X := fun k => k = w.heap.size } := by
    rw [hY]
    have : (fun k => (Value.slice none 0 0).ownBlock = some k) = fun (_ : Nat) => False := by funext k; simp [Value.ownBlock]
    rw [this]
  rw [e1]
  exact m1
end
end Go.Proofs.YtpjbfdpblgjmfaaGreatDoor
