/-
  Decode's state: a field of what is under way is set; what is done goes into the code.
  Decode's loop over the handlers.
-/
import Derived.Test.YtpjbfdpblgjmfaaGreatDoorMD2
import Derived.Test.YtpjbfdpblgjmfaaGreatDoorDg
set_option linter.unusedVariables false
set_option linter.unusedSimpArgs false
namespace Go.Proofs.YtpjbfdpblgjmfaaGreatDoor
open Go.RowKit

section
variable {T : TypeId} {pre : List Value} {e : TypeId} {z : Nat} {w0 w : World} {s : List UInt8} {g : Dg} {hb : Nat} {u : Value} {n : Nat} {xs : List Value}
theorem Sst.field (h : Sst T pre e z w0 s g hb u n xs w) (i : Nat) (hi : i < pre.length) (v : Value) : Sst T (pre.set i v) e z w0 s g hb u n xs (w.setCell ⟨hb, i, none⟩ v) := by
  have hc2 : Ch (fun k => k = hb) w (w.setCell ⟨hb, i, none⟩ v) := Ch.setCell _ _ _ rfl
  refine ⟨h.m.aside 6 (.inl rfl) hc2 (fun k hk => .inl hk) (fun k hk => Nat.lt_of_lt_of_le (h.m.own.lt 6 k hk) hc2.size) rfl, ?_, ownsRow_keep h.r (h.m.own.same (i := 6) (j := 7) (by omega) hc2)⟩
  rw [blk_set h.b]
  simp [List.set_append, hi]
end
theorem Dm.endHan {w0 w w1 : World} {s : List UInt8} {g : Dg} {hb : Nat} {sw : Bool} {u : Value} {l : List Int} (h : Sst 121 [.bool sw] 3 1 w0 s g hb u l.length (l.map (Value.int .i64)) w) {v' : Value} (hrow : w1.ownsRow 0 121 2 v' (g.hs.length + 1) (g.hs.flatMap hanC ++ [.bool sw, u])) (hc : Ch (fun k => g.vh.ownBlock = some k) w w1) (hm : ∀ k, v'.ownBlock = some k → g.vh.ownBlock = some k ∨ w.heap.size ≤ k) :
    Dm w0 s { g with X := fun k => k = hb, D := fun k => g.D k ∨ u.ownBlock = some k, Y := fun _ => False, vh := v', hs := g.hs ++ [(u, ⟨sw, l⟩)] } (w1.setCell ⟨g.cb, 2, none⟩ v') :=
  (h.m.give).pushHan (x := (u, ⟨sw, l⟩)) (v' := v') (w1 := w1) hrow hc hm ⟨h.r, fun k hk => .inr hk⟩
theorem Dm.endFun {w0 w w1 : World} {s : List UInt8} {g : Dg} {hb : Nat} {fr sl : Int} {u : Value} {l : List Cd.Ins} (h : Sst 85 [.int .i64 fr, .int .i64 sl] 123 4 w0 s g hb u l.length (l.flatMap insC) w) {v' : Value} (hrow : w1.ownsRow 0 85 3 v' (g.fs.length + 1) (g.fs.flatMap funC ++ [.int .i64 fr, .int .i64 sl, u])) (hc : Ch (fun k => g.vf.ownBlock = some k) w w1) (hm : ∀ k, v'.ownBlock = some k → g.vf.ownBlock = some k ∨ w.heap.size ≤ k) :
    Dm w0 s { g with X := fun k => k = hb, D := fun k => g.D k ∨ u.ownBlock = some k, Y := fun _ => False, vf := v', fs := g.fs ++ [(u, ⟨fr, sl, l⟩)] } (w1.setCell ⟨g.cb, 3, none⟩ v') :=
  (h.m.give).pushFun (x := (u, ⟨fr, sl, l⟩)) (v' := v') (w1 := w1) hrow hc hm ⟨h.r, fun k hk => .inr hk⟩
end Go.Proofs.YtpjbfdpblgjmfaaGreatDoor

namespace Go.Proofs.YtpjbfdpblgjmfaaGreatDoor
open Go.RowKit

set_option maxRecDepth 100000 in
set_option maxHeartbeats 8000000 in
theorem hans_exit_a {w0 wr : World} {s : List UInt8} {g : Dg} {n i hb : Nat} (F G : Nat → Value) (Q0 : Exit → Act → World → Prop) (J : Act → World → Prop) (h4 : F 4 = .pointer (some ⟨g.b, 0, none⟩)) (h7 : F 7 = .pointer (some ⟨g.cb, 0, none⟩)) (h8 : F 8 = .int .i64 (n : Nat))
    (hm : Dm w0 s g wr) (hi : ¬ i < n) (hexit : ∀ a', FrK [0, 2, 3, 4, 7, 8] F a' → Q0 (.exit 4) a' wr) :
    Code.wp Tryz.prog ((Tryz.f15.body.map (fun c => (loopsOf c).getD 2 .skip)).getD .skip) (Exit.then J Q0) ⟨#[F 0, G 1, F 2, F 3, .pointer (some ⟨g.b, 0, none⟩), G 5, G 6, .pointer (some ⟨g.cb, 0, none⟩), .int .i64 (n : Nat), G 9, G 10, G 11, G 12, .int .i64 (i : Nat), G 14, G 15, G 16, G 17, G 18, G 19, G 20, G 21, G 22, G 23, G 24, G 25, G 26, G 27, G 28, G 29, G 30, G 31, G 32, G 33, G 34, G 35, G 36, G 37, G 38, G 39, G 40, G 41, G 42, G 43, G 44, G 45, G 46, G 47, G 48, G 49, G 50, G 51, G 52, G 53, G 54, G 55, G 56, G 57, G 58, G 59, G 60, G 61, G 62, G 63, G 64, G 65, G 66, G 67, G 68, G 69, G 70, G 71, G 72, G 73, G 74, G 75, G 76, G 77, G 78, G 79, G 80, G 81, G 82, G 83, G 84, G 85, G 86, G 87, G 88, G 89, G 90, G 91, G 92, G 93, G 94, G 95, G 96, G 97, G 98, G 99, G 100, G 101, G 102, G 103, G 104, G 105, G 106, G 107, G 108, G 109, G 110, G 111, G 112, G 113, G 114, G 115, G 116, G 117, G 118, G 119, G 120, G 121, G 122, G 123, G 124, G 125, G 126, G 127, G 128, G 129, G 130, G 131, G 132, G 133, G 134, G 135, G 136, G 137, G 138, G 139, G 140, G 141, G 142, G 143, G 144, G 145, G 146, G 147, G 148, G 149, G 150, G 151, G 152, G 153, G 154, G 155, G 156, G 157, G 158, G 159, G 160, G 161, G 162, G 163, G 164, G 165, G 166, G 167, G 168, G 169, G 170, G 171, G 172, G 173, G 174, G 175, G 176, G 177, G 178, G 179, G 180, G 181, G 182, G 183, G 184, G 185, G 186, G 187, G 188, G 189, G 190, G 191, G 192, G 193, G 194, G 195], []⟩ wr := by
  have hi1 : ¬ ((i : Int) < (n : Int)) := by omega
  clear hi
  conv => arg 2; whnf
  go_wp2
  refine ⟨rfl, rfl, fun x9 hx9 => ?_⟩
  simp only [List.mem_cons, List.not_mem_nil, or_false] at hx9
  rcases hx9 with rfl | rfl | rfl | rfl | rfl | rfl
  all_goals first
    | rfl
    | exact congrArg some h4.symm
    | exact congrArg some h7.symm
    | exact congrArg some h8.symm
set_option maxRecDepth 100000 in
set_option maxHeartbeats 8000000 in
theorem hans_exit_b {w0 wr : World} {s : List UInt8} {g : Dg} {n i hb : Nat} (F G : Nat → Value) (Q0 : Exit → Act → World → Prop) (J : Act → World → Prop) (h4 : F 4 = .pointer (some ⟨g.b, 0, none⟩)) (h7 : F 7 = .pointer (some ⟨g.cb, 0, none⟩)) (h8 : F 8 = .int .i64 (n : Nat))
    (hm : Dm w0 s g wr) (hi : i < n) (hf : ¬ g.r.fk = 0) (hexit : ∀ a', FrK [0, 2, 3, 4, 7, 8] F a' → Q0 (.exit 4) a' wr) :
    Code.wp Tryz.prog ((Tryz.f15.body.map (fun c => (loopsOf c).getD 2 .skip)).getD .skip) (Exit.then J Q0) ⟨#[F 0, G 1, F 2, F 3, .pointer (some ⟨g.b, 0, none⟩), G 5, G 6, .pointer (some ⟨g.cb, 0, none⟩), .int .i64 (n : Nat), G 9, G 10, G 11, G 12, .int .i64 (i : Nat), G 14, G 15, G 16, G 17, G 18, G 19, G 20, G 21, G 22, G 23, G 24, G 25, G 26, G 27, G 28, G 29, G 30, G 31, G 32, G 33, G 34, G 35, G 36, G 37, G 38, G 39, G 40, G 41, G 42, G 43, G 44, G 45, G 46, G 47, G 48, G 49, G 50, G 51, G 52, G 53, G 54, G 55, G 56, G 57, G 58, G 59, G 60, G 61, G 62, G 63, G 64, G 65, G 66, G 67, G 68, G 69, G 70, G 71, G 72, G 73, G 74, G 75, G 76, G 77, G 78, G 79, G 80, G 81, G 82, G 83, G 84, G 85, G 86, G 87, G 88, G 89, G 90, G 91, G 92, G 93, G 94, G 95, G 96, G 97, G 98, G 99, G 100, G 101, G 102, G 103, G 104, G 105, G 106, G 107, G 108, G 109, G 110, G 111, G 112, G 113, G 114, G 115, G 116, G 117, G 118, G 119, G 120, G 121, G 122, G 123, G 124, G 125, G 126, G 127, G 128, G 129, G 130, G 131, G 132, G 133, G 134, G 135, G 136, G 137, G 138, G 139, G 140, G 141, G 142, G 143, G 144, G 145, G 146, G 147, G 148, G 149, G 150, G 151, G 152, G 153, G 154, G 155, G 156, G 157, G 158, G 159, G 160, G 161, G 162, G 163, G 164, G 165, G 166, G 167, G 168, G 169, G 170, G 171, G 172, G 173, G 174, G 175, G 176, G 177, G 178, G 179, G 180, G 181, G 182, G 183, G 184, G 185, G 186, G 187, G 188, G 189, G 190, G 191, G 192, G 193, G 194, G 195], []⟩ wr := by
  have hi1 : (i : Int) < (n : Int) := by omega
  have hok := hm.ok
  rw [show decide (g.r.fk = 0) = false by simp [hf]] at hok
  unfold ptrV at hok
  clear hi
  conv => arg 2; whnf
  go_wp2_with (go_at_call 34; refine hok.mono ?_; clear hok; rintro e wr ⟨rfl, rfl⟩; dsimp only)
  refine ⟨rfl, rfl, fun x9 hx9 => ?_⟩
  simp only [List.mem_cons, List.not_mem_nil, or_false] at hx9
  rcases hx9 with rfl | rfl | rfl | rfl | rfl | rfl
  all_goals first
    | rfl
    | exact congrArg some h4.symm
    | exact congrArg some h7.symm
    | exact congrArg some h8.symm
set_option maxRecDepth 100000 in
set_option maxHeartbeats 8000000 in
theorem hans_round {w0 wr : World} {s : List UInt8} {g : Dg} {n i k : Nat} {sw : Bool} {l : List Int} {r1 r2 r3 : Cd.Rd} (F G : Nat → Value) (Q0 : Exit → Act → World → Prop) (hQ0 : ∀ c a a' w, a.defers = a'.defers → Q0 (.panic c) a w → Q0 (.panic c) a' w) (h4 : F 4 = .pointer (some ⟨g.b, 0, none⟩)) (h7 : F 7 = .pointer (some ⟨g.cb, 0, none⟩)) (h8 : F 8 = .int .i64 (n : Nat))
    (hs : s.length ≤ 4000000) (hm : Dm w0 s g wr) (hY : g.Y = fun _ => False) (hi : i < n) (hn : n ≤ 65535) (hf : g.r.fk = 0) (hol : g.hs.length ≤ i) (hsw : g.r.flag s = (sw, r1)) (hk : r1.num s 1 = (k, r2)) (hil : r2.intsL s k = (l, r3)) :
    Code.wp Tryz.prog ((Tryz.f15.body.map (fun c => (loopsOf c).getD 2 .skip)).getD .skip) (Exit.then (fun a' w' => FrK [0, 2, 3, 4, 7, 8] F a' ∧ a'.tmps[13]? = some (.int .i64 ((i : Int) + 1)) ∧ ∃ X D v u, Dm w0 s { g with r := r3, X := X, D := D, Y := fun _ => False, vh := v, hs := g.hs ++ [(u, ⟨sw, l⟩)] } w') Q0) ⟨#[F 0, G 1, F 2, F 3, .pointer (some ⟨g.b, 0, none⟩), G 5, G 6, .pointer (some ⟨g.cb, 0, none⟩), .int .i64 (n : Nat), G 9, G 10, G 11, G 12, .int .i64 (i : Nat), G 14, G 15, G 16, G 17, G 18, G 19, G 20, G 21, G 22, G 23, G 24, G 25, G 26, G 27, G 28, G 29, G 30, G 31, G 32, G 33, G 34, G 35, G 36, G 37, G 38, G 39, G 40, G 41, G 42, G 43, G 44, G 45, G 46, G 47, G 48, G 49, G 50, G 51, G 52, G 53, G 54, G 55, G 56, G 57, G 58, G 59, G 60, G 61, G 62, G 63, G 64, G 65, G 66, G 67, G 68, G 69, G 70, G 71, G 72, G 73, G 74, G 75, G 76, G 77, G 78, G 79, G 80, G 81, G 82, G 83, G 84, G 85, G 86, G 87, G 88, G 89, G 90, G 91, G 92, G 93, G 94, G 95, G 96, G 97, G 98, G 99, G 100, G 101, G 102, G 103, G 104, G 105, G 106, G 107, G 108, G 109, G 110, G 111, G 112, G 113, G 114, G 115, G 116, G 117, G 118, G 119, G 120, G 121, G 122, G 123, G 124, G 125, G 126, G 127, G 128, G 129, G 130, G 131, G 132, G 133, G 134, G 135, G 136, G 137, G 138, G 139, G 140, G 141, G 142, G 143, G 144, G 145, G 146, G 147, G 148, G 149, G 150, G 151, G 152, G 153, G 154, G 155, G 156, G 157, G 158, G 159, G 160, G 161, G 162, G 163, G 164, G 165, G 166, G 167, G 168, G 169, G 170, G 171, G 172, G 173, G 174, G 175, G 176, G 177, G 178, G 179, G 180, G 181, G 182, G 183, G 184, G 185, G 186, G 187, G 188, G 189, G 190, G 191, G 192, G 193, G 194, G 195], []⟩ wr := by
  have hi1 : (i : Int) < (n : Int) := by omega
  have hw : IntKind.i64.wrap ((i : Int) + 1) = (i : Int) + 1 := IntWalk.i64_in _ (by omega)
  have hok := hm.ok
  rw [show decide (g.r.fk = 0) = true by simp [hf]] at hok
  unfold ptrV at hok
  replace hY := hid hY
  have hk256 : k < 256 := by have := Cd.num_one_lt s r1; rw [hk] at this; exact this
  replace hsw := hid hsw
  replace hk := hid hk
  replace hil := hid hil
  conv => arg 2; whnf
  go_upto_region 29 with (go_at_call 34; refine hok.mono ?_; clear hok; rintro e wr ⟨rfl, rfl⟩; dsimp only)
  have hst0 : Sst 121 [.bool false] 3 1 w0 s g wr.heap.size (.slice none 0 0) 0 [] (wr.alloc (.cells #[.bool false, .slice none 0 0] 121)) := hm.begin hY.out (by rw [World.alloc_heap_new]; rfl) (Ch.alloc _ _ _)
  obtain ⟨hb, hhb⟩ : ∃ hb, wr.heap.size = hb := ⟨_, rfl⟩
  obtain ⟨W0, hW0⟩ : ∃ W0, wr.alloc (.cells #[.bool false, .slice none 0 0] 121) = W0 := ⟨_, rfl⟩
  rw [hW0, hhb] at hst0 ⊢
  clear hW0 hhb hm
  have hfl := hst0.m.flag hs
  unfold ptrV at hfl
  dsimp only at hfl
  rw [hsw.out] at hfl
  go_upto_region 30 with (go_at_call 35; refine hfl.mono ?_; clear hfl; rintro e w1 ⟨rfl, hm1, hc1⟩; have hst1 := hst0.read hm1 hc1; have hb1 := hst1.b; have cc : w1.cell? ⟨hb, 0, none⟩ = some (.bool false) := (by simp [World.cell?, hb1]); have cf : w1.frozen? ⟨hb, 0, none⟩ = false := (by simp [World.frozen?, hb1]); clear hm1 hb1; dsimp only)
  have hst2 := hst1.field 0 (by simp) (.bool sw)
  rw [show ([.bool false] : List Value).set 0 (.bool sw) = [.bool sw] from rfl] at hst2
  clear hst0 hst1 cc cf
  obtain ⟨W2, hW2⟩ : ∃ W2, w1.setCell ⟨hb, 0, none⟩ (.bool sw) = W2 := ⟨_, rfl⟩
  rw [hW2] at hst2 ⊢
  clear hW2
  have hnum := hst2.m.num hs 1 (by omega)
  unfold ptrV at hnum
  dsimp only at hnum
  rw [sgn_one, hk.out] at hnum
  go_wp2_with (go_at_call 33; refine hnum.mono ?_; clear hnum; rintro e w3 ⟨rfl, hm3, hc3⟩; have hst3 := hst2.read hm3 hc3; clear hm3; dsimp only)
  refine ints_loop2 (W := w3) (g := { g with r := r2 }) _ _ rfl rfl rfl rfl rfl rfl (fun c9 a9 a8 w9 hd9 h9 => hQ0 c9 a9 a8 w9 hd9 h9) hs (by omega) hst3 ?_
  intro a4 w4 u hf4 hst4
  obtain ⟨G, rfl, hG⟩ := act_open hf4.sz hf4.df
  have g0 : G 0 = F 0 := hG 0 _ (hf4.k 0 (by simp))
  have g2 : G 2 = F 2 := hG 2 _ (hf4.k 2 (by simp))
  have g3 : G 3 = F 3 := hG 3 _ (hf4.k 3 (by simp))
  have g4 : G 4 = .pointer (some ⟨g.b, 0, none⟩) := hG 4 _ (hf4.k 4 (by simp))
  have g7 : G 7 = .pointer (some ⟨g.cb, 0, none⟩) := hG 7 _ (hf4.k 7 (by simp))
  have g8 : G 8 = .int .i64 (n : Nat) := hG 8 _ (hf4.k 8 (by simp))
  have g13 : G 13 = .int .i64 (i : Nat) := hG 13 _ (hf4.k 13 (by simp))
  have g14 : G 14 = .pointer (some ⟨hb, 0, none⟩) := hG 14 _ (hf4.k 14 (by simp))
  have g15 : G 15 = .int .i64 (k : Nat) := hG 15 _ (hf4.k 15 (by simp))
  rw [g0, g2, g3, g4, g7, g8, g13, g14, g15]
  clear hG hf4
  dsimp only at hst4
  rw [hil.out] at hst4
  have hcb4 : w4.heap[g.cb]? = some (.cells #[.string ⟨g.sh.toArray⟩, g.vo, g.vh, g.vf] 38 (0, 0)) := hst4.m.c
  have hr4 : w4.ownsRow 0 121 2 g.vh g.hs.length (g.hs.flatMap hanC) := hst4.m.rh
  have hne4 : g.vh.ownBlock ≠ some g.cb := fun e => by have := hst4.m.own.dj 3 1 g.cb e rfl; omega
  obtain ⟨va, vc, hvo, _⟩ := row_slice hr4
  obtain ⟨ua, uc, hu, _⟩ := row_slice hst4.r
  have c4 : w4.cell? ⟨g.cb, 2, none⟩ = some (.slice va g.hs.length vc) := by simp [World.cell?, hcb4, hvo]
  have hb4 := hst4.b
  have k0 : w4.cell? ⟨hb, 0, none⟩ = some (.bool sw) := by simp [World.cell?, hb4]
  have k1 : w4.cell? ⟨hb, 1, none⟩ = some (.slice ua l.length uc) := by simp [World.cell?, hb4, hu]
  have hr4s := hr4
  rw [hvo] at hr4s
  have hrA : (w4.alloc (.cells #[.bool sw, .slice ua l.length uc] 121)).ownsRow 0 121 2 (.slice va g.hs.length vc) g.hs.length (g.hs.flatMap hanC) := ownsRow_keep hr4s (fun k hk => (Ch.alloc (fun _ => False) w4 _).same k (ownsRow_lt hr4s hk) (fun h => h))
  have hAc := new_cells w4 [.bool sw, .slice ua l.length uc] 121
  have hcbl : g.cb < w4.heap.size := hst4.m.own.lt 1 g.cb rfl
  replace hvo := hid hvo
  replace hu := hid hu
  replace hst4 := hid hst4
  clear hr4 hb4
  go_upto_region 27 with (at_builtin; go_must (refine list_append rfl (.tmp 123) (.tmp 125) 35 rfl 121 (.agg #[.bool false, .slice none 0 0]) 2 32 Tryz.underlying35 Tryz.infoHan rfl (by decide) (.slice va g.hs.length vc) g.hs.length (g.hs.flatMap hanC) rfl hrA ⟨w4.heap.size, 0, none⟩ 1 1 [.bool sw, .slice ua l.length uc] rfl rfl hAc (by simp [Value.oneCell']) (by unfold maxLen; omega) (by omega) ?_); intro v5 w5 hrow5 hgrow5 hblk5; obtain ⟨g5, c5, rfl⟩ := ownsRow_succ hrow5; obtain ⟨d5, df5⟩ := cb_after (i := 2) hcb4 hcbl (show (Value.slice va g.hs.length vc).ownBlock ≠ some g.cb by rw [← hvo.out]; exact hne4) hgrow5 rfl)
  have hfin := Dm.endHan hst4.out (v' := .slice (some ⟨g5, 0, none⟩) (g.hs.length + 1) c5) (w1 := w5) (by rw [hu.out]; exact hrow5) (show Ch (fun k => g.vh.ownBlock = some k) w4 w5 by rw [hvo.out]; exact app_ch (Ch.alloc _ _ _) hgrow5) (show ∀ k, _ → g.vh.ownBlock = some k ∨ _ by rw [hvo.out]; exact app_more (Ch.alloc _ w4 _) hblk5)
  go_wp2
  refine ⟨⟨rfl, rfl, fun x9 hx9 => ?_⟩, _, _, _, _, hfin⟩
  simp only [List.mem_cons, List.not_mem_nil, or_false] at hx9
  rcases hx9 with rfl | rfl | rfl | rfl | rfl | rfl
  all_goals first
    | rfl
    | exact congrArg some h4.symm
    | exact congrArg some h7.symm
    | exact congrArg some h8.symm
theorem hans_loop {w0 W : World} {s : List UInt8} {g : Dg} {n : Nat} (F : Nat → Value) (Q0 : Exit → Act → World → Prop) (hQ0 : ∀ c a a' w, a.defers = a'.defers → Q0 (.panic c) a w → Q0 (.panic c) a' w) (h4 : F 4 = .pointer (some ⟨g.b, 0, none⟩)) (h7 : F 7 = .pointer (some ⟨g.cb, 0, none⟩)) (h8 : F 8 = .int .i64 (n : Nat)) (hs : s.length ≤ 4000000) (hn : n ≤ 65535) (hm : Dm w0 s g W) (hl0 : g.hs = []) (hY : g.Y = fun _ => False) (a0 : Act) (hfr : FrK [0, 2, 3, 4, 7, 8] F a0) (h9 : a0.tmps[13]? = some (.int .i64 0))
    (hexit : ∀ a' w' v l X D, FrK [0, 2, 3, 4, 7, 8] F a' → l.map Prod.snd = (g.r.hansL s n).1 → Dm w0 s { g with r := (g.r.hansL s n).2, X := X, D := D, Y := fun _ => False, vh := v, hs := l } w' → Q0 (.exit 4) a' w') : Code.wp Tryz.prog (Code.loop ((Tryz.f15.body.map (fun c => (loopsOf c).getD 2 .skip)).getD .skip)) Q0 a0 W := by
  refine wp_loop (fun a w => ∃ (i : Nat) (r : Cd.Rd) (v : Value) (l : List (Value × Cd.Han)) (X D : Nat → Prop), i ≤ n ∧ l.length ≤ i ∧ FrK [0, 2, 3, 4, 7, 8] F a ∧ a.tmps[13]? = some (.int .i64 (i : Nat)) ∧ Dm w0 s { g with r := r, X := X, D := D, Y := fun _ => False, vh := v, hs := l } w ∧ g.r.hansL s n = (l.map Prod.snd ++ (r.hansL s (n - i)).1, (r.hansL s (n - i)).2)) (fun a _ => n - (intOf (a.tmps.getD 13 undef)).toNat) ⟨0, g.r, g.vh, [], g.X, g.D, Nat.zero_le _, Nat.le_refl _, hfr, h9, by rw [← hl0, ← hY]; exact hm, by simp⟩ ?_
  rintro a w ⟨i, r, v, l, X, D, hi, hol, hf, hi9, hd, hrel⟩
  have hmu : (intOf (a.tmps.getD 13 undef)).toNat = i := by simp [Array.getD_eq_getD_getElem?, hi9, intOf]
  rw [hmu]
  obtain ⟨G, rfl, hG⟩ := act_open hf.sz hf.df
  have hout : (¬ i < n ∨ ¬ r.fk = 0) → ∀ a', FrK [0, 2, 3, 4, 7, 8] F a' → Q0 (.exit 4) a' w := fun hw a' hk => by
    have e : r.hansL s (n - i) = ([], r) := by
      rcases hw with e | e
      · rw [show n - i = 0 by omega]; rfl
      · cases hni : n - i with
        | zero => rfl
        | succ j => simp [Cd.Rd.hansL, e]
    rw [e] at hrel
    refine hexit a' w v l X D hk (by rw [hrel]; simp) ?_
    rw [hrel]
    simpa using hd
  have f0 : G 0 = F 0 := hG 0 _ (hf.k 0 (by simp))
  have f2 : G 2 = F 2 := hG 2 _ (hf.k 2 (by simp))
  have f3 : G 3 = F 3 := hG 3 _ (hf.k 3 (by simp))
  have f4 : G 4 = F 4 := hG 4 _ (hf.k 4 (by simp))
  have f7 : G 7 = F 7 := hG 7 _ (hf.k 7 (by simp))
  have f8 : G 8 = F 8 := hG 8 _ (hf.k 8 (by simp))
  have fi : G 13 = .int .i64 (i : Nat) := hG 13 _ hi9
  rw [h4] at f4
  rw [h7] at f7
  rw [h8] at f8
  rw [f0, f2, f3, f4, f7, f8, fi]
  clear hG hf hi9
  by_cases hlt : i < n
  · by_cases h0 : r.fk = 0
    · obtain ⟨sw, r1, hsw⟩ : ∃ sw r1, r.flag s = (sw, r1) := ⟨_, _, rfl⟩
      obtain ⟨k, r2, hk⟩ : ∃ k r2, r1.num s 1 = (k, r2) := ⟨_, _, rfl⟩
      obtain ⟨l9, r3, hil⟩ : ∃ l9 r3, r2.intsL s k = (l9, r3) := ⟨_, _, rfl⟩
      have hstep : g.r.hansL s n = ((l.map Prod.snd ++ [⟨sw, l9⟩]) ++ ((r3).hansL s (n - (i + 1))).1, ((r3).hansL s (n - (i + 1))).2) := by
        rw [hrel, show n - i = (n - (i + 1)) + 1 by omega]
        simp only [Cd.Rd.hansL, if_pos h0, Cd.Rd.han, hsw, hk, hil]
        simp
      refine wp_mono (hans_round (g := { g with r := r, X := X, D := D, Y := fun _ => False, vh := v, hs := l }) F G Q0 hQ0 h4 h7 h8 hs hd rfl hlt hn h0 hol hsw hk hil) ?_
      intro e a' w' h
      have fin : (FrK [0, 2, 3, 4, 7, 8] F a' ∧ a'.tmps[13]? = some (.int .i64 ((i : Int) + 1)) ∧ ∃ X' D' v' u, Dm w0 s { ({ g with r := r, X := X, D := D, Y := fun _ => False, vh := v, hs := l } : Dg) with r := r3, X := X', D := D', Y := fun _ => False, vh := v', hs := l ++ [(u, ⟨sw, l9⟩)] } w') → (∃ (i : Nat) (r : Cd.Rd) (v : Value) (l : List (Value × Cd.Han)) (X D : Nat → Prop), i ≤ n ∧ l.length ≤ i ∧ FrK [0, 2, 3, 4, 7, 8] F a' ∧ a'.tmps[13]? = some (.int .i64 (i : Nat)) ∧ Dm w0 s { g with r := r, X := X, D := D, Y := fun _ => False, vh := v, hs := l } w' ∧ g.r.hansL s n = (l.map Prod.snd ++ (r.hansL s (n - i)).1, (r.hansL s (n - i)).2)) ∧ n - (intOf (a'.tmps.getD 13 undef)).toNat < n - i := by
        rintro ⟨b1, b2, X', D', v', u, b3⟩
        refine ⟨⟨i + 1, r3, v', l ++ [(u, ⟨sw, l9⟩)], X', D', by omega, by simp; omega, b1, by simpa using b2, b3, by rw [hstep]; simp⟩, ?_⟩
        simp only [Array.getD_eq_getD_getElem?, b2, Option.getD_some, intOf]
        omega
      cases e <;> first | exact fin h | exact h
    · exact hans_exit_b (hb := 0) (g := { g with r := r, X := X, D := D, Y := fun _ => False, vh := v, hs := l }) F G Q0 _ h4 h7 h8 hd hlt h0 (hout (.inr h0))
  · exact hans_exit_a (hb := 0) (g := { g with r := r, X := X, D := D, Y := fun _ => False, vh := v, hs := l }) F G Q0 _ h4 h7 h8 hd hlt (hout (.inl hlt))
end Go.Proofs.YtpjbfdpblgjmfaaGreatDoor
