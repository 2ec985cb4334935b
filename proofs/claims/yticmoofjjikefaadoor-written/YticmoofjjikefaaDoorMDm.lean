/-
  Decode's loop over the functions.
  Decode's first three bytes.
  Decode's first three bytes, as a loop.
-/
import Derived.Test.YticmoofjjikefaaDoorDh
import Derived.Test.YticmoofjjikefaaDoorDi
import Derived.Test.YticmoofjjikefaaDoorDj
set_option linter.unusedVariables false
set_option linter.unusedSimpArgs false
namespace Go.Proofs.YticmoofjjikefaaDoor
open Go.RowKit

set_option maxRecDepth 100000 in
set_option maxHeartbeats 8000000 in
theorem funs_exit_a {w0 wr : World} {s : List UInt8} {g : Dg} {n i hb : Nat} (F G : Nat → Value) (Q0 : Exit → Act → World → Prop) (J : Act → World → Prop) (h4 : F 4 = .pointer (some ⟨g.b, 0, none⟩)) (h7 : F 7 = .pointer (some ⟨g.cb, 0, none⟩)) (h8 : F 8 = .int .i64 (n : Nat))
    (hm : Dm w0 s g wr) (hi : ¬ i < n) (hexit : ∀ a', FrK [0, 2, 3, 4, 7, 8] F a' → Q0 (.exit 8) a' wr) :
    Code.wp Tryd.prog ((Tryd.f6.body.map (fun c => (loopsOf c).getD 3 .skip)).getD .skip) (Exit.then J Q0) ⟨#[F 0, G 1, F 2, F 3, .pointer (some ⟨g.b, 0, none⟩), G 5, G 6, .pointer (some ⟨g.cb, 0, none⟩), .int .i64 (n : Nat), G 9, G 10, G 11, G 12, G 13, G 14, G 15, G 16, .int .i64 (i : Nat), G 18, G 19, G 20, G 21, G 22, G 23, G 24, G 25, G 26, G 27, G 28, G 29, G 30, G 31, G 32, G 33, G 34, G 35, G 36, G 37, G 38, G 39, G 40, G 41, G 42, G 43, G 44, G 45, G 46, G 47, G 48, G 49, G 50, G 51, G 52, G 53, G 54, G 55, G 56, G 57, G 58, G 59, G 60, G 61, G 62, G 63, G 64, G 65, G 66, G 67, G 68, G 69, G 70, G 71, G 72, G 73, G 74, G 75, G 76, G 77, G 78, G 79, G 80, G 81, G 82, G 83, G 84, G 85, G 86, G 87, G 88, G 89, G 90, G 91, G 92, G 93, G 94, G 95, G 96, G 97, G 98, G 99, G 100, G 101, G 102, G 103, G 104, G 105, G 106, G 107, G 108, G 109, G 110, G 111, G 112, G 113, G 114, G 115, G 116, G 117, G 118, G 119, G 120, G 121, G 122, G 123, G 124, G 125, G 126, G 127, G 128, G 129, G 130, G 131, G 132, G 133, G 134, G 135, G 136, G 137, G 138, G 139, G 140, G 141, G 142, G 143, G 144, G 145, G 146, G 147, G 148, G 149, G 150, G 151, G 152, G 153, G 154, G 155, G 156, G 157, G 158, G 159, G 160, G 161, G 162, G 163, G 164, G 165, G 166, G 167, G 168, G 169, G 170, G 171, G 172, G 173, G 174, G 175, G 176, G 177, G 178, G 179, G 180, G 181, G 182, G 183, G 184, G 185, G 186, G 187, G 188, G 189, G 190, G 191, G 192, G 193, G 194, G 195], []⟩ wr := by
  have hi1 : ¬ ((i : Int) < (n : Int)) := by omega
  clear hi
  conv => arg 2; whnf
  go_wp2
  refine ⟨rfl, rfl, fun x9 hx9 => ?_⟩
  simp only [List.mem_cons, List.not_mem_nil, or_false] at hx9
  rcases hx9 with rfl | rfl | rfl | rfl | rfl | rfl
  all_goals first
    | rfl
    | exact congrArg some h4.symm
    | exact congrArg some h7.symm
    | exact congrArg some h8.symm
set_option maxRecDepth 100000 in
set_option maxHeartbeats 8000000 in
theorem funs_exit_b {w0 wr : World} {s : List UInt8} {g : Dg} {n i hb : Nat} (F G : Nat → Value) (Q0 : Exit → Act → World → Prop) (J : Act → World → Prop) (h4 : F 4 = .pointer (some ⟨g.b, 0, none⟩)) (h7 : F 7 = .pointer (some ⟨g.cb, 0, none⟩)) (h8 : F 8 = .int .i64 (n : Nat))
    (hm : Dm w0 s g wr) (hi : i < n) (hf : ¬ g.r.fk = 0) (hexit : ∀ a', FrK [0, 2, 3, 4, 7, 8] F a' → Q0 (.exit 8) a' wr) :
    Code.wp Tryd.prog ((Tryd.f6.body.map (fun c => (loopsOf c).getD 3 .skip)).getD .skip) (Exit.then J Q0) ⟨#[F 0, G 1, F 2, F 3, .pointer (some ⟨g.b, 0, none⟩), G 5, G 6, .pointer (some ⟨g.cb, 0, none⟩), .int .i64 (n : Nat), G 9, G 10, G 11, G 12, G 13, G 14, G 15, G 16, .int .i64 (i : Nat), G 18, G 19, G 20, G 21, G 22, G 23, G 24, G 25, G 26, G 27, G 28, G 29, G 30, G 31, G 32, G 33, G 34, G 35, G 36, G 37, G 38, G 39, G 40, G 41, G 42, G 43, G 44, G 45, G 46, G 47, G 48, G 49, G 50, G 51, G 52, G 53, G 54, G 55, G 56, G 57, G 58, G 59, G 60, G 61, G 62, G 63, G 64, G 65, G 66, G 67, G 68, G 69, G 70, G 71, G 72, G 73, G 74, G 75, G 76, G 77, G 78, G 79, G 80, G 81, G 82, G 83, G 84, G 85, G 86, G 87, G 88, G 89, G 90, G 91, G 92, G 93, G 94, G 95, G 96, G 97, G 98, G 99, G 100, G 101, G 102, G 103, G 104, G 105, G 106, G 107, G 108, G 109, G 110, G 111, G 112, G 113, G 114, G 115, G 116, G 117, G 118, G 119, G 120, G 121, G 122, G 123, G 124, G 125, G 126, G 127, G 128, G 129, G 130, G 131, G 132, G 133, G 134, G 135, G 136, G 137, G 138, G 139, G 140, G 141, G 142, G 143, G 144, G 145, G 146, G 147, G 148, G 149, G 150, G 151, G 152, G 153, G 154, G 155, G 156, G 157, G 158, G 159, G 160, G 161, G 162, G 163, G 164, G 165, G 166, G 167, G 168, G 169, G 170, G 171, G 172, G 173, G 174, G 175, G 176, G 177, G 178, G 179, G 180, G 181, G 182, G 183, G 184, G 185, G 186, G 187, G 188, G 189, G 190, G 191, G 192, G 193, G 194, G 195], []⟩ wr := by
  have hi1 : (i : Int) < (n : Int) := by omega
  have hok := hm.ok
  rw [show decide (g.r.fk = 0) = false by simp [hf]] at hok
  unfold ptrV at hok
  clear hi
  conv => arg 2; whnf
  go_wp2_with (go_at_call 14; refine hok.mono ?_; clear hok; rintro e wr ⟨rfl, rfl⟩; dsimp only)
  refine ⟨rfl, rfl, fun x9 hx9 => ?_⟩
  simp only [List.mem_cons, List.not_mem_nil, or_false] at hx9
  rcases hx9 with rfl | rfl | rfl | rfl | rfl | rfl
  all_goals first
    | rfl
    | exact congrArg some h4.symm
    | exact congrArg some h7.symm
    | exact congrArg some h8.symm
set_option maxRecDepth 100000 in
set_option maxHeartbeats 8000000 in
theorem funs_round {w0 wr : World} {s : List UInt8} {g : Dg} {n i k : Nat} {fa fb : Nat} {l : List Cd.Ins} {r1 r2 r3 r4 : Cd.Rd} (F G : Nat → Value) (Q0 : Exit → Act → World → Prop) (hQ0 : ∀ c a a' w, a.defers = a'.defers → Q0 (.panic c) a w → Q0 (.panic c) a' w) (h4 : F 4 = .pointer (some ⟨g.b, 0, none⟩)) (h7 : F 7 = .pointer (some ⟨g.cb, 0, none⟩)) (h8 : F 8 = .int .i64 (n : Nat))
    (hs : s.length ≤ 4000000) (hm : Dm w0 s g wr) (hY : g.Y = fun _ => False) (hi : i < n) (hn : n ≤ 65535) (hf : g.r.fk = 0) (hol : g.fs.length ≤ i) (hfa : g.r.num s 2 = (fa, r1)) (hfb : r1.num s 2 = (fb, r2)) (hk : r2.num s 2 = (k, r3)) (hil : r3.insL s k = (l, r4)) :
    Code.wp Tryd.prog ((Tryd.f6.body.map (fun c => (loopsOf c).getD 3 .skip)).getD .skip) (Exit.then (fun a' w' => FrK [0, 2, 3, 4, 7, 8] F a' ∧ a'.tmps[17]? = some (.int .i64 ((i : Int) + 1)) ∧ ∃ X D v u, Dm w0 s { g with r := r4, X := X, D := D, Y := fun _ => False, vf := v, fs := g.fs ++ [(u, ⟨(fa : Int), (fb : Int), l⟩)] } w') Q0) ⟨#[F 0, G 1, F 2, F 3, .pointer (some ⟨g.b, 0, none⟩), G 5, G 6, .pointer (some ⟨g.cb, 0, none⟩), .int .i64 (n : Nat), G 9, G 10, G 11, G 12, G 13, G 14, G 15, G 16, .int .i64 (i : Nat), G 18, G 19, G 20, G 21, G 22, G 23, G 24, G 25, G 26, G 27, G 28, G 29, G 30, G 31, G 32, G 33, G 34, G 35, G 36, G 37, G 38, G 39, G 40, G 41, G 42, G 43, G 44, G 45, G 46, G 47, G 48, G 49, G 50, G 51, G 52, G 53, G 54, G 55, G 56, G 57, G 58, G 59, G 60, G 61, G 62, G 63, G 64, G 65, G 66, G 67, G 68, G 69, G 70, G 71, G 72, G 73, G 74, G 75, G 76, G 77, G 78, G 79, G 80, G 81, G 82, G 83, G 84, G 85, G 86, G 87, G 88, G 89, G 90, G 91, G 92, G 93, G 94, G 95, G 96, G 97, G 98, G 99, G 100, G 101, G 102, G 103, G 104, G 105, G 106, G 107, G 108, G 109, G 110, G 111, G 112, G 113, G 114, G 115, G 116, G 117, G 118, G 119, G 120, G 121, G 122, G 123, G 124, G 125, G 126, G 127, G 128, G 129, G 130, G 131, G 132, G 133, G 134, G 135, G 136, G 137, G 138, G 139, G 140, G 141, G 142, G 143, G 144, G 145, G 146, G 147, G 148, G 149, G 150, G 151, G 152, G 153, G 154, G 155, G 156, G 157, G 158, G 159, G 160, G 161, G 162, G 163, G 164, G 165, G 166, G 167, G 168, G 169, G 170, G 171, G 172, G 173, G 174, G 175, G 176, G 177, G 178, G 179, G 180, G 181, G 182, G 183, G 184, G 185, G 186, G 187, G 188, G 189, G 190, G 191, G 192, G 193, G 194, G 195], []⟩ wr := by
  have hi1 : (i : Int) < (n : Int) := by omega
  have hw : IntKind.i64.wrap ((i : Int) + 1) = (i : Int) + 1 := IntWalk.i64_in _ (by omega)
  have hok := hm.ok
  rw [show decide (g.r.fk = 0) = true by simp [hf]] at hok
  unfold ptrV at hok
  replace hY := hid hY
  have hk256 : k < 65536 := by have := Cd.num_two_lt s r2; rw [hk] at this; exact this
  replace hfa := hid hfa
  replace hfb := hid hfb
  replace hk := hid hk
  replace hil := hid hil
  conv => arg 2; whnf
  go_upto_region 41 with (go_at_call 14; refine hok.mono ?_; clear hok; rintro e wr ⟨rfl, rfl⟩; dsimp only)
  have hst0 : Sst 62 [.int .i64 0, .int .i64 0] 64 4 w0 s g wr.heap.size (.slice none 0 0) 0 [] (wr.alloc (.cells #[.int .i64 0, .int .i64 0, .slice none 0 0] 62)) := hm.begin hY.out (by rw [World.alloc_heap_new]; rfl) (Ch.alloc _ _ _)
  obtain ⟨hb, hhb⟩ : ∃ hb, wr.heap.size = hb := ⟨_, rfl⟩
  obtain ⟨W0, hW0⟩ : ∃ W0, wr.alloc (.cells #[.int .i64 0, .int .i64 0, .slice none 0 0] 62) = W0 := ⟨_, rfl⟩
  rw [hW0, hhb] at hst0 ⊢
  clear hW0 hhb hm
  have hn1 := hst0.m.num hs 2 (by omega)
  unfold ptrV at hn1
  dsimp only at hn1
  rw [sgn_two, hfa.out] at hn1
  go_upto_region 42 with (go_at_call 13; refine hn1.mono ?_; clear hn1; rintro e w1 ⟨rfl, hm1, hc1⟩; have hst1 := hst0.read hm1 hc1; have hb1 := hst1.b; have cc : w1.cell? ⟨hb, 0, none⟩ = some (.int .i64 0) := (by simp [World.cell?, hb1]); have cf : w1.frozen? ⟨hb, 0, none⟩ = false := (by simp [World.frozen?, hb1]); clear hm1 hb1; dsimp only)
  have hst2 := hst1.field 0 (by simp) (.int .i64 (fa : Int))
  rw [show ([.int .i64 0, .int .i64 0] : List Value).set 0 (.int .i64 (fa : Int)) = [.int .i64 (fa : Int), .int .i64 0] from rfl] at hst2
  clear hst0 hst1 cc cf
  obtain ⟨W2, hW2⟩ : ∃ W2, w1.setCell ⟨hb, 0, none⟩ (.int .i64 (fa : Int)) = W2 := ⟨_, rfl⟩
  rw [hW2] at hst2 ⊢
  clear hW2
  have hn2 := hst2.m.num hs 2 (by omega)
  unfold ptrV at hn2
  dsimp only at hn2
  rw [sgn_two, hfb.out] at hn2
  go_upto_region 43 with (go_at_call 13; refine hn2.mono ?_; clear hn2; rintro e w3 ⟨rfl, hm3, hc3⟩; have hst3 := hst2.read hm3 hc3; have hb3 := hst3.b; have cc : w3.cell? ⟨hb, 1, none⟩ = some (.int .i64 0) := (by simp [World.cell?, hb3]); have cf : w3.frozen? ⟨hb, 1, none⟩ = false := (by simp [World.frozen?, hb3]); clear hm3 hb3; dsimp only)
  have hst5 := hst3.field 1 (by simp) (.int .i64 (fb : Int))
  rw [show ([.int .i64 (fa : Int), .int .i64 0] : List Value).set 1 (.int .i64 (fb : Int)) = [.int .i64 (fa : Int), .int .i64 (fb : Int)] from rfl] at hst5
  clear hst2 hst3 cc cf
  obtain ⟨W4, hW4⟩ : ∃ W4, w3.setCell ⟨hb, 1, none⟩ (.int .i64 (fb : Int)) = W4 := ⟨_, rfl⟩
  rw [hW4] at hst5 ⊢
  clear hW4
  have hn3 := hst5.m.num hs 2 (by omega)
  unfold ptrV at hn3
  dsimp only at hn3
  rw [sgn_two, hk.out] at hn3
  go_wp2_with (go_at_call 13; refine hn3.mono ?_; clear hn3; rintro e w6 ⟨rfl, hm6, hc6⟩; have hst6 := hst5.read hm6 hc6; clear hm6; dsimp only)
  refine inss_loop2 (W := w6) (g := { g with r := r3 }) _ _ rfl rfl rfl rfl rfl rfl (fun c9 a9 a8 w9 hd9 h9 => hQ0 c9 a9 a8 w9 hd9 h9) hs (by omega) hst6 ?_
  intro a4 w4 u hf4 hst4
  obtain ⟨G, rfl, hG⟩ := act_open hf4.sz hf4.df
  have g0 : G 0 = F 0 := hG 0 _ (hf4.k 0 (by simp))
  have g2 : G 2 = F 2 := hG 2 _ (hf4.k 2 (by simp))
  have g3 : G 3 = F 3 := hG 3 _ (hf4.k 3 (by simp))
  have g4 : G 4 = .pointer (some ⟨g.b, 0, none⟩) := hG 4 _ (hf4.k 4 (by simp))
  have g7 : G 7 = .pointer (some ⟨g.cb, 0, none⟩) := hG 7 _ (hf4.k 7 (by simp))
  have g8 : G 8 = .int .i64 (n : Nat) := hG 8 _ (hf4.k 8 (by simp))
  have g17 : G 17 = .int .i64 (i : Nat) := hG 17 _ (hf4.k 17 (by simp))
  have g18 : G 18 = .pointer (some ⟨hb, 0, none⟩) := hG 18 _ (hf4.k 18 (by simp))
  have g19 : G 19 = .int .i64 (k : Nat) := hG 19 _ (hf4.k 19 (by simp))
  rw [g0, g2, g3, g4, g7, g8, g17, g18, g19]
  clear hG hf4
  dsimp only at hst4
  rw [hil.out] at hst4
  have hcb4 : w4.heap[g.cb]? = some (.cells #[.string ⟨g.sh.toArray⟩, g.vo, g.vh, g.vf] 26 (0, 0)) := hst4.m.c
  have hr4 : w4.ownsRow 0 62 3 g.vf g.fs.length (g.fs.flatMap funC) := hst4.m.rf
  have hne4 : g.vf.ownBlock ≠ some g.cb := fun e => by have := hst4.m.own.dj 4 1 g.cb e rfl; omega
  obtain ⟨va, vc, hvo, _⟩ := row_slice hr4
  obtain ⟨ua, uc, hu, _⟩ := row_slice hst4.r
  have c4 : w4.cell? ⟨g.cb, 3, none⟩ = some (.slice va g.fs.length vc) := by simp [World.cell?, hcb4, hvo]
  have hb4 := hst4.b
  have k0 : w4.cell? ⟨hb, 0, none⟩ = some (.int .i64 (fa : Int)) := by simp [World.cell?, hb4]
  have k1 : w4.cell? ⟨hb, 1, none⟩ = some (.int .i64 (fb : Int)) := by simp [World.cell?, hb4]
  have k2 : w4.cell? ⟨hb, 2, none⟩ = some (.slice ua l.length uc) := by simp [World.cell?, hb4, hu]
  have hr4s := hr4
  rw [hvo] at hr4s
  have hrA : (w4.alloc (.cells #[.int .i64 (fa : Int), .int .i64 (fb : Int), .slice ua l.length uc] 62)).ownsRow 0 62 3 (.slice va g.fs.length vc) g.fs.length (g.fs.flatMap funC) := ownsRow_keep hr4s (fun k hk => (Ch.alloc (fun _ => False) w4 _).same k (ownsRow_lt hr4s hk) (fun h => h))
  have hAc := new_cells w4 [.int .i64 (fa : Int), .int .i64 (fb : Int), .slice ua l.length uc] 62
  have hcbl : g.cb < w4.heap.size := hst4.m.own.lt 1 g.cb rfl
  replace hvo := hid hvo
  replace hu := hid hu
  replace hst4 := hid hst4
  clear hr4 hb4
  go_upto_region 39 with (at_builtin; go_must (refine list_append rfl (.tmp 164) (.tmp 166) 24 rfl 62 (.agg #[.int .i64 0, .int .i64 0, .slice none 0 0]) 3 40 Tryd.underlying24 Tryd.infoFun rfl (by decide) (.slice va g.fs.length vc) g.fs.length (g.fs.flatMap funC) rfl hrA ⟨w4.heap.size, 0, none⟩ 1 1 [.int .i64 (fa : Int), .int .i64 (fb : Int), .slice ua l.length uc] rfl rfl hAc (by simp [Value.oneCell']) (by unfold maxLen; omega) (by omega) ?_); intro v5 w5 hrow5 hgrow5 hblk5; obtain ⟨g5, c5, rfl⟩ := ownsRow_succ hrow5; obtain ⟨d5, df5⟩ := cb_after (i := 3) hcb4 hcbl (show (Value.slice va g.fs.length vc).ownBlock ≠ some g.cb by rw [← hvo.out]; exact hne4) hgrow5 rfl)
  have hfin := Dm.endFun hst4.out (v' := .slice (some ⟨g5, 0, none⟩) (g.fs.length + 1) c5) (w1 := w5) (by rw [hu.out]; exact hrow5) (show Ch (fun k => g.vf.ownBlock = some k) w4 w5 by rw [hvo.out]; exact app_ch (Ch.alloc _ _ _) hgrow5) (show ∀ k, _ → g.vf.ownBlock = some k ∨ _ by rw [hvo.out]; exact app_more (Ch.alloc _ w4 _) hblk5)
  go_wp2
  refine ⟨⟨rfl, rfl, fun x9 hx9 => ?_⟩, _, _, _, _, hfin⟩
  simp only [List.mem_cons, List.not_mem_nil, or_false] at hx9
  rcases hx9 with rfl | rfl | rfl | rfl | rfl | rfl
  all_goals first
    | rfl
    | exact congrArg some h4.symm
    | exact congrArg some h7.symm
    | exact congrArg some h8.symm
theorem funs_loop {w0 W : World} {s : List UInt8} {g : Dg} {n : Nat} (F : Nat → Value) (Q0 : Exit → Act → World → Prop) (hQ0 : ∀ c a a' w, a.defers = a'.defers → Q0 (.panic c) a w → Q0 (.panic c) a' w) (h4 : F 4 = .pointer (some ⟨g.b, 0, none⟩)) (h7 : F 7 = .pointer (some ⟨g.cb, 0, none⟩)) (h8 : F 8 = .int .i64 (n : Nat)) (hs : s.length ≤ 4000000) (hn : n ≤ 65535) (hm : Dm w0 s g W) (hl0 : g.fs = []) (hY : g.Y = fun _ => False) (a0 : Act) (hfr : FrK [0, 2, 3, 4, 7, 8] F a0) (h9 : a0.tmps[17]? = some (.int .i64 0))
    (hexit : ∀ a' w' v l X D, FrK [0, 2, 3, 4, 7, 8] F a' → l.map Prod.snd = (g.r.funsL s n).1 → Dm w0 s { g with r := (g.r.funsL s n).2, X := X, D := D, Y := fun _ => False, vf := v, fs := l } w' → Q0 (.exit 8) a' w') : Code.wp Tryd.prog (Code.loop ((Tryd.f6.body.map (fun c => (loopsOf c).getD 3 .skip)).getD .skip)) Q0 a0 W := by
  refine wp_loop (fun a w => ∃ (i : Nat) (r : Cd.Rd) (v : Value) (l : List (Value × Cd.Fun)) (X D : Nat → Prop), i ≤ n ∧ l.length ≤ i ∧ FrK [0, 2, 3, 4, 7, 8] F a ∧ a.tmps[17]? = some (.int .i64 (i : Nat)) ∧ Dm w0 s { g with r := r, X := X, D := D, Y := fun _ => False, vf := v, fs := l } w ∧ g.r.funsL s n = (l.map Prod.snd ++ (r.funsL s (n - i)).1, (r.funsL s (n - i)).2)) (fun a _ => n - (intOf (a.tmps.getD 17 undef)).toNat) ⟨0, g.r, g.vf, [], g.X, g.D, Nat.zero_le _, Nat.le_refl _, hfr, h9, by rw [← hl0, ← hY]; exact hm, by simp⟩ ?_
  rintro a w ⟨i, r, v, l, X, D, hi, hol, hf, hi9, hd, hrel⟩
  have hmu : (intOf (a.tmps.getD 17 undef)).toNat = i := by simp [Array.getD_eq_getD_getElem?, hi9, intOf]
  rw [hmu]
  obtain ⟨G, rfl, hG⟩ := act_open hf.sz hf.df
  have hout : (¬ i < n ∨ ¬ r.fk = 0) → ∀ a', FrK [0, 2, 3, 4, 7, 8] F a' → Q0 (.exit 8) a' w := fun hw a' hk => by
    have e : r.funsL s (n - i) = ([], r) := by
      rcases hw with e | e
      · rw [show n - i = 0 by omega]; rfl
      · cases hni : n - i with
        | zero => rfl
        | succ j => simp [Cd.Rd.funsL, e]
    rw [e] at hrel
    refine hexit a' w v l X D hk (by rw [hrel]; simp) ?_
    rw [hrel]
    simpa using hd
  have f0 : G 0 = F 0 := hG 0 _ (hf.k 0 (by simp))
  have f2 : G 2 = F 2 := hG 2 _ (hf.k 2 (by simp))
  have f3 : G 3 = F 3 := hG 3 _ (hf.k 3 (by simp))
  have f4 : G 4 = F 4 := hG 4 _ (hf.k 4 (by simp))
  have f7 : G 7 = F 7 := hG 7 _ (hf.k 7 (by simp))
  have f8 : G 8 = F 8 := hG 8 _ (hf.k 8 (by simp))
  have fi : G 17 = .int .i64 (i : Nat) := hG 17 _ hi9
  rw [h4] at f4
  rw [h7] at f7
  rw [h8] at f8
  rw [f0, f2, f3, f4, f7, f8, fi]
  clear hG hf hi9
  by_cases hlt : i < n
  · by_cases h0 : r.fk = 0
    · obtain ⟨fa, r1, hfa⟩ : ∃ fa r1, r.num s 2 = (fa, r1) := ⟨_, _, rfl⟩
      obtain ⟨fb, r2, hfb⟩ : ∃ fb r2, r1.num s 2 = (fb, r2) := ⟨_, _, rfl⟩
      obtain ⟨k, r3, hk⟩ : ∃ k r3, r2.num s 2 = (k, r3) := ⟨_, _, rfl⟩
      obtain ⟨l9, r4, hil⟩ : ∃ l9 r4, r3.insL s k = (l9, r4) := ⟨_, _, rfl⟩
      have hstep : g.r.funsL s n = ((l.map Prod.snd ++ [⟨(fa : Int), (fb : Int), l9⟩]) ++ ((r4).funsL s (n - (i + 1))).1, ((r4).funsL s (n - (i + 1))).2) := by
        rw [hrel, show n - i = (n - (i + 1)) + 1 by omega]
        simp only [Cd.Rd.funsL, if_pos h0, Cd.Rd.fn, hfa, hfb, hk, hil]
        simp
      refine wp_mono (funs_round (g := { g with r := r, X := X, D := D, Y := fun _ => False, vf := v, fs := l }) F G Q0 hQ0 h4 h7 h8 hs hd rfl hlt hn h0 hol hfa hfb hk hil) ?_
      intro e a' w' h
      have fin : (FrK [0, 2, 3, 4, 7, 8] F a' ∧ a'.tmps[17]? = some (.int .i64 ((i : Int) + 1)) ∧ ∃ X' D' v' u, Dm w0 s { ({ g with r := r, X := X, D := D, Y := fun _ => False, vf := v, fs := l } : Dg) with r := r4, X := X', D := D', Y := fun _ => False, vf := v', fs := l ++ [(u, ⟨(fa : Int), (fb : Int), l9⟩)] } w') → (∃ (i : Nat) (r : Cd.Rd) (v : Value) (l : List (Value × Cd.Fun)) (X D : Nat → Prop), i ≤ n ∧ l.length ≤ i ∧ FrK [0, 2, 3, 4, 7, 8] F a' ∧ a'.tmps[17]? = some (.int .i64 (i : Nat)) ∧ Dm w0 s { g with r := r, X := X, D := D, Y := fun _ => False, vf := v, fs := l } w' ∧ g.r.funsL s n = (l.map Prod.snd ++ (r.funsL s (n - i)).1, (r.funsL s (n - i)).2)) ∧ n - (intOf (a'.tmps.getD 17 undef)).toNat < n - i := by
        rintro ⟨b1, b2, X', D', v', u, b3⟩
        refine ⟨⟨i + 1, r4, v', l ++ [(u, ⟨(fa : Int), (fb : Int), l9⟩)], X', D', by omega, by simp; omega, b1, by simpa using b2, b3, by rw [hstep]; simp⟩, ?_⟩
        simp only [Array.getD_eq_getD_getElem?, b2, Option.getD_some, intOf]
        omega
      cases e <;> first | exact fin h | exact h
    · exact funs_exit_b (hb := 0) (g := { g with r := r, X := X, D := D, Y := fun _ => False, vf := v, fs := l }) F G Q0 _ h4 h7 h8 hd hlt h0 (hout (.inr h0))
  · exact funs_exit_a (hb := 0) (g := { g with r := r, X := X, D := D, Y := fun _ => False, vf := v, fs := l }) F G Q0 _ h4 h7 h8 hd hlt (hout (.inl hlt))
end Go.Proofs.YticmoofjjikefaaDoor

namespace Go.Proofs.YticmoofjjikefaaDoor
open Go.RowKit

theorem Ch.undrew {O : Nat → Prop} {w w' : World} {n : Nat} (h : Ch O (w.drewN n) w') : Ch O w w' := ⟨h.size, h.same, h.eo⟩
set_option maxRecDepth 100000 in
set_option maxHeartbeats 8000000 in
theorem head_0a {wr : World} {s : List UInt8} {b : Nat} {r : Cd.Rd} (F G : Nat → Value) (Q0 : Exit → Act → World → Prop) (h0 : F 0 = .string ⟨s.toArray⟩) (h4 : F 4 = .pointer (some ⟨b, 0, none⟩)) (h5 : F 5 = .string ⟨#[69, 70, 49]⟩) (hr : RdM wr b s r) (hi : 0 < s.length) (hc : (s[0]'hi).toNat = 69) :
    Code.wp Tryd.prog ((Tryd.f6.body.map (fun c => (loopsOf c).getD 0 .skip)).getD .skip) (Exit.then (fun a' w' => FrK [0, 2, 3, 4, 5] F a' ∧ a'.tmps[6]? = some (.int .i64 1) ∧ RdM w' b s r ∧ Ch (fun k => k = b) wr w') Q0) ⟨#[.string ⟨s.toArray⟩, G 1, F 2, F 3, .pointer (some ⟨b, 0, none⟩), .string ⟨#[69, 70, 49]⟩, .int .i64 0, G 7, G 8, G 9, G 10, G 11, G 12, G 13, G 14, G 15, G 16, G 17, G 18, G 19, G 20, G 21, G 22, G 23, G 24, G 25, G 26, G 27, G 28, G 29, G 30, G 31, G 32, G 33, G 34, G 35, G 36, G 37, G 38, G 39, G 40, G 41, G 42, G 43, G 44, G 45, G 46, G 47, G 48, G 49, G 50, G 51, G 52, G 53, G 54, G 55, G 56, G 57, G 58, G 59, G 60, G 61, G 62, G 63, G 64, G 65, G 66, G 67, G 68, G 69, G 70, G 71, G 72, G 73, G 74, G 75, G 76, G 77, G 78, G 79, G 80, G 81, G 82, G 83, G 84, G 85, G 86, G 87, G 88, G 89, G 90, G 91, G 92, G 93, G 94, G 95, G 96, G 97, G 98, G 99, G 100, G 101, G 102, G 103, G 104, G 105, G 106, G 107, G 108, G 109, G 110, G 111, G 112, G 113, G 114, G 115, G 116, G 117, G 118, G 119, G 120, G 121, G 122, G 123, G 124, G 125, G 126, G 127, G 128, G 129, G 130, G 131, G 132, G 133, G 134, G 135, G 136, G 137, G 138, G 139, G 140, G 141, G 142, G 143, G 144, G 145, G 146, G 147, G 148, G 149, G 150, G 151, G 152, G 153, G 154, G 155, G 156, G 157, G 158, G 159, G 160, G 161, G 162, G 163, G 164, G 165, G 166, G 167, G 168, G 169, G 170, G 171, G 172, G 173, G 174, G 175, G 176, G 177, G 178, G 179, G 180, G 181, G 182, G 183, G 184, G 185, G 186, G 187, G 188, G 189, G 190, G 191, G 192, G 193, G 194, G 195], []⟩ wr := by
  have hmx : Tryd.prog.follows .mixedOrders = true := by kernel_rfl
  have hsz := size_mk s
  have hge : ¬ ((s.length : Int) ≤ 0) := by omega
  have hlt : (0 : Int) < (s.length : Int) := by omega
  have hl0 : ¬ s.length = 0 := by omega
  have hnil : ¬ s = [] := fun e => by rw [e] at hi; simp at hi
  have hx : ∀ (h : 0 < (⟨s.toArray⟩ : ByteArray).size), ((⟨s.toArray⟩ : ByteArray)[0]'h).toNat = (s[0]'hi).toNat := fun h => rfl
  rw [hc] at hx
  conv => arg 2; whnf
  go_upto_region 10 with (fail)
  go_quiet (fail)
  go_wp2
  first
    | exact ⟨⟨rfl, rfl, (by
      intro x9 hx9
      simp only [List.mem_cons, List.not_mem_nil, or_false] at hx9
      rcases hx9 with rfl | rfl | rfl | rfl | rfl
      all_goals first
        | rfl
        | exact congrArg some h0.symm
        | exact congrArg some h4.symm
        | exact congrArg some h5.symm)⟩, hr, ⟨Nat.le_refl _, fun _ _ _ => rfl, rfl, rfl⟩⟩
    | exact ⟨⟨rfl, rfl, (by
      intro x9 hx9
      simp only [List.mem_cons, List.not_mem_nil, or_false] at hx9
      rcases hx9 with rfl | rfl | rfl | rfl | rfl
      all_goals first
        | rfl
        | exact congrArg some h0.symm
        | exact congrArg some h4.symm
        | exact congrArg some h5.symm)⟩, rfl, hr, ⟨Nat.le_refl _, fun _ _ _ => rfl, rfl, rfl⟩⟩
    | exact ⟨⟨rfl, rfl, (by
      intro x9 hx9
      simp only [List.mem_cons, List.not_mem_nil, or_false] at hx9
      rcases hx9 with rfl | rfl | rfl | rfl | rfl
      all_goals first
        | rfl
        | exact congrArg some h0.symm
        | exact congrArg some h4.symm
        | exact congrArg some h5.symm)⟩, ⟨Nat.le_refl _, fun _ _ _ => rfl, rfl, rfl⟩⟩
    | exact ⟨⟨rfl, rfl, (by
      intro x9 hx9
      simp only [List.mem_cons, List.not_mem_nil, or_false] at hx9
      rcases hx9 with rfl | rfl | rfl | rfl | rfl
      all_goals first
        | rfl
        | exact congrArg some h0.symm
        | exact congrArg some h4.symm
        | exact congrArg some h5.symm)⟩, rfl, ⟨Nat.le_refl _, fun _ _ _ => rfl, rfl, rfl⟩⟩
set_option maxRecDepth 100000 in
set_option maxHeartbeats 8000000 in
theorem head_0b {wr : World} {s : List UInt8} {b : Nat} {r : Cd.Rd} (F G : Nat → Value) (Q0 : Exit → Act → World → Prop) (h0 : F 0 = .string ⟨s.toArray⟩) (h4 : F 4 = .pointer (some ⟨b, 0, none⟩)) (h5 : F 5 = .string ⟨#[69, 70, 49]⟩) (hr : RdM wr b s r) (hi : 0 < s.length) (hc : ¬ (s[0]'hi).toNat = 69) :
    Code.wp Tryd.prog ((Tryd.f6.body.map (fun c => (loopsOf c).getD 0 .skip)).getD .skip) (Exit.then (fun a' w' => FrK [0, 2, 3, 4, 5] F a' ∧ a'.tmps[6]? = some (.int .i64 1) ∧ RdM w' b s (r.no 12 0) ∧ Ch (fun k => k = b) wr w') Q0) ⟨#[.string ⟨s.toArray⟩, G 1, F 2, F 3, .pointer (some ⟨b, 0, none⟩), .string ⟨#[69, 70, 49]⟩, .int .i64 0, G 7, G 8, G 9, G 10, G 11, G 12, G 13, G 14, G 15, G 16, G 17, G 18, G 19, G 20, G 21, G 22, G 23, G 24, G 25, G 26, G 27, G 28, G 29, G 30, G 31, G 32, G 33, G 34, G 35, G 36, G 37, G 38, G 39, G 40, G 41, G 42, G 43, G 44, G 45, G 46, G 47, G 48, G 49, G 50, G 51, G 52, G 53, G 54, G 55, G 56, G 57, G 58, G 59, G 60, G 61, G 62, G 63, G 64, G 65, G 66, G 67, G 68, G 69, G 70, G 71, G 72, G 73, G 74, G 75, G 76, G 77, G 78, G 79, G 80, G 81, G 82, G 83, G 84, G 85, G 86, G 87, G 88, G 89, G 90, G 91, G 92, G 93, G 94, G 95, G 96, G 97, G 98, G 99, G 100, G 101, G 102, G 103, G 104, G 105, G 106, G 107, G 108, G 109, G 110, G 111, G 112, G 113, G 114, G 115, G 116, G 117, G 118, G 119, G 120, G 121, G 122, G 123, G 124, G 125, G 126, G 127, G 128, G 129, G 130, G 131, G 132, G 133, G 134, G 135, G 136, G 137, G 138, G 139, G 140, G 141, G 142, G 143, G 144, G 145, G 146, G 147, G 148, G 149, G 150, G 151, G 152, G 153, G 154, G 155, G 156, G 157, G 158, G 159, G 160, G 161, G 162, G 163, G 164, G 165, G 166, G 167, G 168, G 169, G 170, G 171, G 172, G 173, G 174, G 175, G 176, G 177, G 178, G 179, G 180, G 181, G 182, G 183, G 184, G 185, G 186, G 187, G 188, G 189, G 190, G 191, G 192, G 193, G 194, G 195], []⟩ wr := by
  have hmx : Tryd.prog.follows .mixedOrders = true := by kernel_rfl
  have hsz := size_mk s
  have hge : ¬ ((s.length : Int) ≤ 0) := by omega
  have hlt : (0 : Int) < (s.length : Int) := by omega
  have hl0 : ¬ s.length = 0 := by omega
  have hnil : ¬ s = [] := fun e => by rw [e] at hi; simp at hi
  have hx : ∀ (h : 0 < (⟨s.toArray⟩ : ByteArray).size), ((⟨s.toArray⟩ : ByteArray)[0]'h).toNat = (s[0]'hi).toNat := fun h => rfl
  have hcI : ¬ (((s[0]'hi).toNat : Int) = 69) := by omega
  have hcB : (((s[0]'hi).toNat : Int) != (((⟨#[69, 70, 49]⟩ : ByteArray)[0]'(by decide)).toNat : Int)) = true := by
    show (((s[0]'hi).toNat : Int) != (69 : Int)) = true
    simpa using hcI
  have hno := fun w (h : RdM w b s r) => no_any w b s r 12 0 h
  unfold ptrV at hno
  conv => arg 2; whnf
  go_upto_region 10 with (fail)
  go_quiet (fail)
  go_wp2_with (go_at_call 11; refine (hno _ (show RdM (wr.drewN nq) b s r from hr)).mono ?_; clear hno; rintro e w1 ⟨rfl, hr1, hg1⟩; dsimp only)
  first
    | exact ⟨⟨rfl, rfl, (by
      intro x9 hx9
      simp only [List.mem_cons, List.not_mem_nil, or_false] at hx9
      rcases hx9 with rfl | rfl | rfl | rfl | rfl
      all_goals first
        | rfl
        | exact congrArg some h0.symm
        | exact congrArg some h4.symm
        | exact congrArg some h5.symm)⟩, hr1, (grown_ch hg1).undrew⟩
    | exact ⟨⟨rfl, rfl, (by
      intro x9 hx9
      simp only [List.mem_cons, List.not_mem_nil, or_false] at hx9
      rcases hx9 with rfl | rfl | rfl | rfl | rfl
      all_goals first
        | rfl
        | exact congrArg some h0.symm
        | exact congrArg some h4.symm
        | exact congrArg some h5.symm)⟩, rfl, hr1, (grown_ch hg1).undrew⟩
    | exact ⟨⟨rfl, rfl, (by
      intro x9 hx9
      simp only [List.mem_cons, List.not_mem_nil, or_false] at hx9
      rcases hx9 with rfl | rfl | rfl | rfl | rfl
      all_goals first
        | rfl
        | exact congrArg some h0.symm
        | exact congrArg some h4.symm
        | exact congrArg some h5.symm)⟩, (grown_ch hg1).undrew⟩
    | exact ⟨⟨rfl, rfl, (by
      intro x9 hx9
      simp only [List.mem_cons, List.not_mem_nil, or_false] at hx9
      rcases hx9 with rfl | rfl | rfl | rfl | rfl
      all_goals first
        | rfl
        | exact congrArg some h0.symm
        | exact congrArg some h4.symm
        | exact congrArg some h5.symm)⟩, rfl, (grown_ch hg1).undrew⟩
set_option maxRecDepth 100000 in
set_option maxHeartbeats 8000000 in
theorem head_0c {wr : World} {s : List UInt8} {b : Nat} {r : Cd.Rd} (F G : Nat → Value) (Q0 : Exit → Act → World → Prop) (h0 : F 0 = .string ⟨s.toArray⟩) (h4 : F 4 = .pointer (some ⟨b, 0, none⟩)) (h5 : F 5 = .string ⟨#[69, 70, 49]⟩) (hr : RdM wr b s r) (hi : ¬ 0 < s.length) :
    Code.wp Tryd.prog ((Tryd.f6.body.map (fun c => (loopsOf c).getD 0 .skip)).getD .skip) (Exit.then (fun a' w' => FrK [0, 2, 3, 4, 5] F a' ∧ a'.tmps[6]? = some (.int .i64 1) ∧ RdM w' b s (r.no 13 0) ∧ Ch (fun k => k = b) wr w') Q0) ⟨#[.string ⟨s.toArray⟩, G 1, F 2, F 3, .pointer (some ⟨b, 0, none⟩), .string ⟨#[69, 70, 49]⟩, .int .i64 0, G 7, G 8, G 9, G 10, G 11, G 12, G 13, G 14, G 15, G 16, G 17, G 18, G 19, G 20, G 21, G 22, G 23, G 24, G 25, G 26, G 27, G 28, G 29, G 30, G 31, G 32, G 33, G 34, G 35, G 36, G 37, G 38, G 39, G 40, G 41, G 42, G 43, G 44, G 45, G 46, G 47, G 48, G 49, G 50, G 51, G 52, G 53, G 54, G 55, G 56, G 57, G 58, G 59, G 60, G 61, G 62, G 63, G 64, G 65, G 66, G 67, G 68, G 69, G 70, G 71, G 72, G 73, G 74, G 75, G 76, G 77, G 78, G 79, G 80, G 81, G 82, G 83, G 84, G 85, G 86, G 87, G 88, G 89, G 90, G 91, G 92, G 93, G 94, G 95, G 96, G 97, G 98, G 99, G 100, G 101, G 102, G 103, G 104, G 105, G 106, G 107, G 108, G 109, G 110, G 111, G 112, G 113, G 114, G 115, G 116, G 117, G 118, G 119, G 120, G 121, G 122, G 123, G 124, G 125, G 126, G 127, G 128, G 129, G 130, G 131, G 132, G 133, G 134, G 135, G 136, G 137, G 138, G 139, G 140, G 141, G 142, G 143, G 144, G 145, G 146, G 147, G 148, G 149, G 150, G 151, G 152, G 153, G 154, G 155, G 156, G 157, G 158, G 159, G 160, G 161, G 162, G 163, G 164, G 165, G 166, G 167, G 168, G 169, G 170, G 171, G 172, G 173, G 174, G 175, G 176, G 177, G 178, G 179, G 180, G 181, G 182, G 183, G 184, G 185, G 186, G 187, G 188, G 189, G 190, G 191, G 192, G 193, G 194, G 195], []⟩ wr := by
  have hmx : Tryd.prog.follows .mixedOrders = true := by kernel_rfl
  have hsz := size_mk s
  obtain rfl : s = [] := by
    cases s with
    | nil => rfl
    | cons a l => simp at hi
  have hge : ((([] : List UInt8).length : Nat) : Int) ≤ 0 := by simp
  have hno := no_any wr b _ r 13 0 hr
  unfold ptrV at hno
  conv => arg 2; whnf
  go_wp2_with (go_at_call 11; refine hno.mono ?_; clear hno; rintro e w1 ⟨rfl, hr1, hg1⟩; dsimp only)
  first
    | exact ⟨⟨rfl, rfl, (by
      intro x9 hx9
      simp only [List.mem_cons, List.not_mem_nil, or_false] at hx9
      rcases hx9 with rfl | rfl | rfl | rfl | rfl
      all_goals first
        | rfl
        | exact congrArg some h0.symm
        | exact congrArg some h4.symm
        | exact congrArg some h5.symm)⟩, hr1, grown_ch hg1⟩
    | exact ⟨⟨rfl, rfl, (by
      intro x9 hx9
      simp only [List.mem_cons, List.not_mem_nil, or_false] at hx9
      rcases hx9 with rfl | rfl | rfl | rfl | rfl
      all_goals first
        | rfl
        | exact congrArg some h0.symm
        | exact congrArg some h4.symm
        | exact congrArg some h5.symm)⟩, rfl, hr1, grown_ch hg1⟩
    | exact ⟨⟨rfl, rfl, (by
      intro x9 hx9
      simp only [List.mem_cons, List.not_mem_nil, or_false] at hx9
      rcases hx9 with rfl | rfl | rfl | rfl | rfl
      all_goals first
        | rfl
        | exact congrArg some h0.symm
        | exact congrArg some h4.symm
        | exact congrArg some h5.symm)⟩, grown_ch hg1⟩
    | exact ⟨⟨rfl, rfl, (by
      intro x9 hx9
      simp only [List.mem_cons, List.not_mem_nil, or_false] at hx9
      rcases hx9 with rfl | rfl | rfl | rfl | rfl
      all_goals first
        | rfl
        | exact congrArg some h0.symm
        | exact congrArg some h4.symm
        | exact congrArg some h5.symm)⟩, rfl, grown_ch hg1⟩
set_option maxRecDepth 100000 in
set_option maxHeartbeats 8000000 in
theorem head_1a {wr : World} {s : List UInt8} {b : Nat} {r : Cd.Rd} (F G : Nat → Value) (Q0 : Exit → Act → World → Prop) (h0 : F 0 = .string ⟨s.toArray⟩) (h4 : F 4 = .pointer (some ⟨b, 0, none⟩)) (h5 : F 5 = .string ⟨#[69, 70, 49]⟩) (hr : RdM wr b s r) (hi : 1 < s.length) (hc : (s[1]'hi).toNat = 70) :
    Code.wp Tryd.prog ((Tryd.f6.body.map (fun c => (loopsOf c).getD 0 .skip)).getD .skip) (Exit.then (fun a' w' => FrK [0, 2, 3, 4, 5] F a' ∧ a'.tmps[6]? = some (.int .i64 2) ∧ RdM w' b s r ∧ Ch (fun k => k = b) wr w') Q0) ⟨#[.string ⟨s.toArray⟩, G 1, F 2, F 3, .pointer (some ⟨b, 0, none⟩), .string ⟨#[69, 70, 49]⟩, .int .i64 1, G 7, G 8, G 9, G 10, G 11, G 12, G 13, G 14, G 15, G 16, G 17, G 18, G 19, G 20, G 21, G 22, G 23, G 24, G 25, G 26, G 27, G 28, G 29, G 30, G 31, G 32, G 33, G 34, G 35, G 36, G 37, G 38, G 39, G 40, G 41, G 42, G 43, G 44, G 45, G 46, G 47, G 48, G 49, G 50, G 51, G 52, G 53, G 54, G 55, G 56, G 57, G 58, G 59, G 60, G 61, G 62, G 63, G 64, G 65, G 66, G 67, G 68, G 69, G 70, G 71, G 72, G 73, G 74, G 75, G 76, G 77, G 78, G 79, G 80, G 81, G 82, G 83, G 84, G 85, G 86, G 87, G 88, G 89, G 90, G 91, G 92, G 93, G 94, G 95, G 96, G 97, G 98, G 99, G 100, G 101, G 102, G 103, G 104, G 105, G 106, G 107, G 108, G 109, G 110, G 111, G 112, G 113, G 114, G 115, G 116, G 117, G 118, G 119, G 120, G 121, G 122, G 123, G 124, G 125, G 126, G 127, G 128, G 129, G 130, G 131, G 132, G 133, G 134, G 135, G 136, G 137, G 138, G 139, G 140, G 141, G 142, G 143, G 144, G 145, G 146, G 147, G 148, G 149, G 150, G 151, G 152, G 153, G 154, G 155, G 156, G 157, G 158, G 159, G 160, G 161, G 162, G 163, G 164, G 165, G 166, G 167, G 168, G 169, G 170, G 171, G 172, G 173, G 174, G 175, G 176, G 177, G 178, G 179, G 180, G 181, G 182, G 183, G 184, G 185, G 186, G 187, G 188, G 189, G 190, G 191, G 192, G 193, G 194, G 195], []⟩ wr := by
  have hmx : Tryd.prog.follows .mixedOrders = true := by kernel_rfl
  have hsz := size_mk s
  have hge : ¬ ((s.length : Int) ≤ 1) := by omega
  have hlt : (1 : Int) < (s.length : Int) := by omega
  have hl0 : ¬ s.length = 0 := by omega
  have hnil : ¬ s = [] := fun e => by rw [e] at hi; simp at hi
  have hx : ∀ (h : 1 < (⟨s.toArray⟩ : ByteArray).size), ((⟨s.toArray⟩ : ByteArray)[1]'h).toNat = (s[1]'hi).toNat := fun h => rfl
  rw [hc] at hx
  conv => arg 2; whnf
  go_upto_region 10 with (fail)
  go_quiet (fail)
  go_wp2
  first
    | exact ⟨⟨rfl, rfl, (by
      intro x9 hx9
      simp only [List.mem_cons, List.not_mem_nil, or_false] at hx9
      rcases hx9 with rfl | rfl | rfl | rfl | rfl
      all_goals first
        | rfl
        | exact congrArg some h0.symm
        | exact congrArg some h4.symm
        | exact congrArg some h5.symm)⟩, hr, ⟨Nat.le_refl _, fun _ _ _ => rfl, rfl, rfl⟩⟩
    | exact ⟨⟨rfl, rfl, (by
      intro x9 hx9
      simp only [List.mem_cons, List.not_mem_nil, or_false] at hx9
      rcases hx9 with rfl | rfl | rfl | rfl | rfl
      all_goals first
        | rfl
        | exact congrArg some h0.symm
        | exact congrArg some h4.symm
        | exact congrArg some h5.symm)⟩, rfl, hr, ⟨Nat.le_refl _, fun _ _ _ => rfl, rfl, rfl⟩⟩
    | exact ⟨⟨rfl, rfl, (by
      intro x9 hx9
      simp only [List.mem_cons, List.not_mem_nil, or_false] at hx9
      rcases hx9 with rfl | rfl | rfl | rfl | rfl
      all_goals first
        | rfl
        | exact congrArg some h0.symm
        | exact congrArg some h4.symm
        | exact congrArg some h5.symm)⟩, ⟨Nat.le_refl _, fun _ _ _ => rfl, rfl, rfl⟩⟩
    | exact ⟨⟨rfl, rfl, (by
      intro x9 hx9
      simp only [List.mem_cons, List.not_mem_nil, or_false] at hx9
      rcases hx9 with rfl | rfl | rfl | rfl | rfl
      all_goals first
        | rfl
        | exact congrArg some h0.symm
        | exact congrArg some h4.symm
        | exact congrArg some h5.symm)⟩, rfl, ⟨Nat.le_refl _, fun _ _ _ => rfl, rfl, rfl⟩⟩
set_option maxRecDepth 100000 in
set_option maxHeartbeats 8000000 in
theorem head_1b {wr : World} {s : List UInt8} {b : Nat} {r : Cd.Rd} (F G : Nat → Value) (Q0 : Exit → Act → World → Prop) (h0 : F 0 = .string ⟨s.toArray⟩) (h4 : F 4 = .pointer (some ⟨b, 0, none⟩)) (h5 : F 5 = .string ⟨#[69, 70, 49]⟩) (hr : RdM wr b s r) (hi : 1 < s.length) (hc : ¬ (s[1]'hi).toNat = 70) :
    Code.wp Tryd.prog ((Tryd.f6.body.map (fun c => (loopsOf c).getD 0 .skip)).getD .skip) (Exit.then (fun a' w' => FrK [0, 2, 3, 4, 5] F a' ∧ a'.tmps[6]? = some (.int .i64 2) ∧ RdM w' b s (r.no 12 1) ∧ Ch (fun k => k = b) wr w') Q0) ⟨#[.string ⟨s.toArray⟩, G 1, F 2, F 3, .pointer (some ⟨b, 0, none⟩), .string ⟨#[69, 70, 49]⟩, .int .i64 1, G 7, G 8, G 9, G 10, G 11, G 12, G 13, G 14, G 15, G 16, G 17, G 18, G 19, G 20, G 21, G 22, G 23, G 24, G 25, G 26, G 27, G 28, G 29, G 30, G 31, G 32, G 33, G 34, G 35, G 36, G 37, G 38, G 39, G 40, G 41, G 42, G 43, G 44, G 45, G 46, G 47, G 48, G 49, G 50, G 51, G 52, G 53, G 54, G 55, G 56, G 57, G 58, G 59, G 60, G 61, G 62, G 63, G 64, G 65, G 66, G 67, G 68, G 69, G 70, G 71, G 72, G 73, G 74, G 75, G 76, G 77, G 78, G 79, G 80, G 81, G 82, G 83, G 84, G 85, G 86, G 87, G 88, G 89, G 90, G 91, G 92, G 93, G 94, G 95, G 96, G 97, G 98, G 99, G 100, G 101, G 102, G 103, G 104, G 105, G 106, G 107, G 108, G 109, G 110, G 111, G 112, G 113, G 114, G 115, G 116, G 117, G 118, G 119, G 120, G 121, G 122, G 123, G 124, G 125, G 126, G 127, G 128, G 129, G 130, G 131, G 132, G 133, G 134, G 135, G 136, G 137, G 138, G 139, G 140, G 141, G 142, G 143, G 144, G 145, G 146, G 147, G 148, G 149, G 150, G 151, G 152, G 153, G 154, G 155, G 156, G 157, G 158, G 159, G 160, G 161, G 162, G 163, G 164, G 165, G 166, G 167, G 168, G 169, G 170, G 171, G 172, G 173, G 174, G 175, G 176, G 177, G 178, G 179, G 180, G 181, G 182, G 183, G 184, G 185, G 186, G 187, G 188, G 189, G 190, G 191, G 192, G 193, G 194, G 195], []⟩ wr := by
  have hmx : Tryd.prog.follows .mixedOrders = true := by kernel_rfl
  have hsz := size_mk s
  have hge : ¬ ((s.length : Int) ≤ 1) := by omega
  have hlt : (1 : Int) < (s.length : Int) := by omega
  have hl0 : ¬ s.length = 0 := by omega
  have hnil : ¬ s = [] := fun e => by rw [e] at hi; simp at hi
  have hx : ∀ (h : 1 < (⟨s.toArray⟩ : ByteArray).size), ((⟨s.toArray⟩ : ByteArray)[1]'h).toNat = (s[1]'hi).toNat := fun h => rfl
  have hcI : ¬ (((s[1]'hi).toNat : Int) = 70) := by omega
  have hcB : (((s[1]'hi).toNat : Int) != (((⟨#[69, 70, 49]⟩ : ByteArray)[1]'(by decide)).toNat : Int)) = true := by
    show (((s[1]'hi).toNat : Int) != (70 : Int)) = true
    simpa using hcI
  have hno := fun w (h : RdM w b s r) => no_any w b s r 12 1 h
  unfold ptrV at hno
  conv => arg 2; whnf
  go_upto_region 10 with (fail)
  go_quiet (fail)
  go_wp2_with (go_at_call 11; refine (hno _ (show RdM (wr.drewN nq) b s r from hr)).mono ?_; clear hno; rintro e w1 ⟨rfl, hr1, hg1⟩; dsimp only)
  first
    | exact ⟨⟨rfl, rfl, (by
      intro x9 hx9
      simp only [List.mem_cons, List.not_mem_nil, or_false] at hx9
      rcases hx9 with rfl | rfl | rfl | rfl | rfl
      all_goals first
        | rfl
        | exact congrArg some h0.symm
        | exact congrArg some h4.symm
        | exact congrArg some h5.symm)⟩, hr1, (grown_ch hg1).undrew⟩
    | exact ⟨⟨rfl, rfl, (by
      intro x9 hx9
      simp only [List.mem_cons, List.not_mem_nil, or_false] at hx9
      rcases hx9 with rfl | rfl | rfl | rfl | rfl
      all_goals first
        | rfl
        | exact congrArg some h0.symm
        | exact congrArg some h4.symm
        | exact congrArg some h5.symm)⟩, rfl, hr1, (grown_ch hg1).undrew⟩
    | exact ⟨⟨rfl, rfl, (by
      intro x9 hx9
      simp only [List.mem_cons, List.not_mem_nil, or_false] at hx9
      rcases hx9 with rfl | rfl | rfl | rfl | rfl
      all_goals first
        | rfl
        | exact congrArg some h0.symm
        | exact congrArg some h4.symm
        | exact congrArg some h5.symm)⟩, (grown_ch hg1).undrew⟩
    | exact ⟨⟨rfl, rfl, (by
      intro x9 hx9
      simp only [List.mem_cons, List.not_mem_nil, or_false] at hx9
      rcases hx9 with rfl | rfl | rfl | rfl | rfl
      all_goals first
        | rfl
        | exact congrArg some h0.symm
        | exact congrArg some h4.symm
        | exact congrArg some h5.symm)⟩, rfl, (grown_ch hg1).undrew⟩
set_option maxRecDepth 100000 in
set_option maxHeartbeats 8000000 in
theorem head_1c {wr : World} {s : List UInt8} {b : Nat} {r : Cd.Rd} (F G : Nat → Value) (Q0 : Exit → Act → World → Prop) (h0 : F 0 = .string ⟨s.toArray⟩) (h4 : F 4 = .pointer (some ⟨b, 0, none⟩)) (h5 : F 5 = .string ⟨#[69, 70, 49]⟩) (hr : RdM wr b s r) (hi : ¬ 1 < s.length) :
    Code.wp Tryd.prog ((Tryd.f6.body.map (fun c => (loopsOf c).getD 0 .skip)).getD .skip) (Exit.then (fun a' w' => FrK [0, 2, 3, 4, 5] F a' ∧ a'.tmps[6]? = some (.int .i64 2) ∧ RdM w' b s (r.no 13 1) ∧ Ch (fun k => k = b) wr w') Q0) ⟨#[.string ⟨s.toArray⟩, G 1, F 2, F 3, .pointer (some ⟨b, 0, none⟩), .string ⟨#[69, 70, 49]⟩, .int .i64 1, G 7, G 8, G 9, G 10, G 11, G 12, G 13, G 14, G 15, G 16, G 17, G 18, G 19, G 20, G 21, G 22, G 23, G 24, G 25, G 26, G 27, G 28, G 29, G 30, G 31, G 32, G 33, G 34, G 35, G 36, G 37, G 38, G 39, G 40, G 41, G 42, G 43, G 44, G 45, G 46, G 47, G 48, G 49, G 50, G 51, G 52, G 53, G 54, G 55, G 56, G 57, G 58, G 59, G 60, G 61, G 62, G 63, G 64, G 65, G 66, G 67, G 68, G 69, G 70, G 71, G 72, G 73, G 74, G 75, G 76, G 77, G 78, G 79, G 80, G 81, G 82, G 83, G 84, G 85, G 86, G 87, G 88, G 89, G 90, G 91, G 92, G 93, G 94, G 95, G 96, G 97, G 98, G 99, G 100, G 101, G 102, G 103, G 104, G 105, G 106, G 107, G 108, G 109, G 110, G 111, G 112, G 113, G 114, G 115, G 116, G 117, G 118, G 119, G 120, G 121, G 122, G 123, G 124, G 125, G 126, G 127, G 128, G 129, G 130, G 131, G 132, G 133, G 134, G 135, G 136, G 137, G 138, G 139, G 140, G 141, G 142, G 143, G 144, G 145, G 146, G 147, G 148, G 149, G 150, G 151, G 152, G 153, G 154, G 155, G 156, G 157, G 158, G 159, G 160, G 161, G 162, G 163, G 164, G 165, G 166, G 167, G 168, G 169, G 170, G 171, G 172, G 173, G 174, G 175, G 176, G 177, G 178, G 179, G 180, G 181, G 182, G 183, G 184, G 185, G 186, G 187, G 188, G 189, G 190, G 191, G 192, G 193, G 194, G 195], []⟩ wr := by
  have hmx : Tryd.prog.follows .mixedOrders = true := by kernel_rfl
  have hsz := size_mk s
  have hge : (s.length : Int) ≤ 1 := by omega
  have hno := no_any wr b _ r 13 1 hr
  unfold ptrV at hno
  conv => arg 2; whnf
  go_wp2_with (go_at_call 11; refine hno.mono ?_; clear hno; rintro e w1 ⟨rfl, hr1, hg1⟩; dsimp only)
  first
    | exact ⟨⟨rfl, rfl, (by
      intro x9 hx9
      simp only [List.mem_cons, List.not_mem_nil, or_false] at hx9
      rcases hx9 with rfl | rfl | rfl | rfl | rfl
      all_goals first
        | rfl
        | exact congrArg some h0.symm
        | exact congrArg some h4.symm
        | exact congrArg some h5.symm)⟩, hr1, grown_ch hg1⟩
    | exact ⟨⟨rfl, rfl, (by
      intro x9 hx9
      simp only [List.mem_cons, List.not_mem_nil, or_false] at hx9
      rcases hx9 with rfl | rfl | rfl | rfl | rfl
      all_goals first
        | rfl
        | exact congrArg some h0.symm
        | exact congrArg some h4.symm
        | exact congrArg some h5.symm)⟩, rfl, hr1, grown_ch hg1⟩
    | exact ⟨⟨rfl, rfl, (by
      intro x9 hx9
      simp only [List.mem_cons, List.not_mem_nil, or_false] at hx9
      rcases hx9 with rfl | rfl | rfl | rfl | rfl
      all_goals first
        | rfl
        | exact congrArg some h0.symm
        | exact congrArg some h4.symm
        | exact congrArg some h5.symm)⟩, grown_ch hg1⟩
    | exact ⟨⟨rfl, rfl, (by
      intro x9 hx9
      simp only [List.mem_cons, List.not_mem_nil, or_false] at hx9
      rcases hx9 with rfl | rfl | rfl | rfl | rfl
      all_goals first
        | rfl
        | exact congrArg some h0.symm
        | exact congrArg some h4.symm
        | exact congrArg some h5.symm)⟩, rfl, grown_ch hg1⟩
set_option maxRecDepth 100000 in
set_option maxHeartbeats 8000000 in
theorem head_2a {wr : World} {s : List UInt8} {b : Nat} {r : Cd.Rd} (F G : Nat → Value) (Q0 : Exit → Act → World → Prop) (h0 : F 0 = .string ⟨s.toArray⟩) (h4 : F 4 = .pointer (some ⟨b, 0, none⟩)) (h5 : F 5 = .string ⟨#[69, 70, 49]⟩) (hr : RdM wr b s r) (hi : 2 < s.length) (hc : (s[2]'hi).toNat = 49) :
    Code.wp Tryd.prog ((Tryd.f6.body.map (fun c => (loopsOf c).getD 0 .skip)).getD .skip) (Exit.then (fun a' w' => FrK [0, 2, 3, 4, 5] F a' ∧ a'.tmps[6]? = some (.int .i64 3) ∧ RdM w' b s r ∧ Ch (fun k => k = b) wr w') Q0) ⟨#[.string ⟨s.toArray⟩, G 1, F 2, F 3, .pointer (some ⟨b, 0, none⟩), .string ⟨#[69, 70, 49]⟩, .int .i64 2, G 7, G 8, G 9, G 10, G 11, G 12, G 13, G 14, G 15, G 16, G 17, G 18, G 19, G 20, G 21, G 22, G 23, G 24, G 25, G 26, G 27, G 28, G 29, G 30, G 31, G 32, G 33, G 34, G 35, G 36, G 37, G 38, G 39, G 40, G 41, G 42, G 43, G 44, G 45, G 46, G 47, G 48, G 49, G 50, G 51, G 52, G 53, G 54, G 55, G 56, G 57, G 58, G 59, G 60, G 61, G 62, G 63, G 64, G 65, G 66, G 67, G 68, G 69, G 70, G 71, G 72, G 73, G 74, G 75, G 76, G 77, G 78, G 79, G 80, G 81, G 82, G 83, G 84, G 85, G 86, G 87, G 88, G 89, G 90, G 91, G 92, G 93, G 94, G 95, G 96, G 97, G 98, G 99, G 100, G 101, G 102, G 103, G 104, G 105, G 106, G 107, G 108, G 109, G 110, G 111, G 112, G 113, G 114, G 115, G 116, G 117, G 118, G 119, G 120, G 121, G 122, G 123, G 124, G 125, G 126, G 127, G 128, G 129, G 130, G 131, G 132, G 133, G 134, G 135, G 136, G 137, G 138, G 139, G 140, G 141, G 142, G 143, G 144, G 145, G 146, G 147, G 148, G 149, G 150, G 151, G 152, G 153, G 154, G 155, G 156, G 157, G 158, G 159, G 160, G 161, G 162, G 163, G 164, G 165, G 166, G 167, G 168, G 169, G 170, G 171, G 172, G 173, G 174, G 175, G 176, G 177, G 178, G 179, G 180, G 181, G 182, G 183, G 184, G 185, G 186, G 187, G 188, G 189, G 190, G 191, G 192, G 193, G 194, G 195], []⟩ wr := by
  have hmx : Tryd.prog.follows .mixedOrders = true := by kernel_rfl
  have hsz := size_mk s
  have hge : ¬ ((s.length : Int) ≤ 2) := by omega
  have hlt : (2 : Int) < (s.length : Int) := by omega
  have hl0 : ¬ s.length = 0 := by omega
  have hnil : ¬ s = [] := fun e => by rw [e] at hi; simp at hi
  have hx : ∀ (h : 2 < (⟨s.toArray⟩ : ByteArray).size), ((⟨s.toArray⟩ : ByteArray)[2]'h).toNat = (s[2]'hi).toNat := fun h => rfl
  rw [hc] at hx
  conv => arg 2; whnf
  go_upto_region 10 with (fail)
  go_quiet (fail)
  go_wp2
  first
    | exact ⟨⟨rfl, rfl, (by
      intro x9 hx9
      simp only [List.mem_cons, List.not_mem_nil, or_false] at hx9
      rcases hx9 with rfl | rfl | rfl | rfl | rfl
      all_goals first
        | rfl
        | exact congrArg some h0.symm
        | exact congrArg some h4.symm
        | exact congrArg some h5.symm)⟩, hr, ⟨Nat.le_refl _, fun _ _ _ => rfl, rfl, rfl⟩⟩
    | exact ⟨⟨rfl, rfl, (by
      intro x9 hx9
      simp only [List.mem_cons, List.not_mem_nil, or_false] at hx9
      rcases hx9 with rfl | rfl | rfl | rfl | rfl
      all_goals first
        | rfl
        | exact congrArg some h0.symm
        | exact congrArg some h4.symm
        | exact congrArg some h5.symm)⟩, rfl, hr, ⟨Nat.le_refl _, fun _ _ _ => rfl, rfl, rfl⟩⟩
    | exact ⟨⟨rfl, rfl, (by
      intro x9 hx9
      simp only [List.mem_cons, List.not_mem_nil, or_false] at hx9
      rcases hx9 with rfl | rfl | rfl | rfl | rfl
      all_goals first
        | rfl
        | exact congrArg some h0.symm
        | exact congrArg some h4.symm
        | exact congrArg some h5.symm)⟩, ⟨Nat.le_refl _, fun _ _ _ => rfl, rfl, rfl⟩⟩
    | exact ⟨⟨rfl, rfl, (by
      intro x9 hx9
      simp only [List.mem_cons, List.not_mem_nil, or_false] at hx9
      rcases hx9 with rfl | rfl | rfl | rfl | rfl
      all_goals first
        | rfl
        | exact congrArg some h0.symm
        | exact congrArg some h4.symm
        | exact congrArg some h5.symm)⟩, rfl, ⟨Nat.le_refl _, fun _ _ _ => rfl, rfl, rfl⟩⟩
set_option maxRecDepth 100000 in
set_option maxHeartbeats 8000000 in
theorem head_2b {wr : World} {s : List UInt8} {b : Nat} {r : Cd.Rd} (F G : Nat → Value) (Q0 : Exit → Act → World → Prop) (h0 : F 0 = .string ⟨s.toArray⟩) (h4 : F 4 = .pointer (some ⟨b, 0, none⟩)) (h5 : F 5 = .string ⟨#[69, 70, 49]⟩) (hr : RdM wr b s r) (hi : 2 < s.length) (hc : ¬ (s[2]'hi).toNat = 49) :
    Code.wp Tryd.prog ((Tryd.f6.body.map (fun c => (loopsOf c).getD 0 .skip)).getD .skip) (Exit.then (fun a' w' => FrK [0, 2, 3, 4, 5] F a' ∧ a'.tmps[6]? = some (.int .i64 3) ∧ RdM w' b s (r.no 12 2) ∧ Ch (fun k => k = b) wr w') Q0) ⟨#[.string ⟨s.toArray⟩, G 1, F 2, F 3, .pointer (some ⟨b, 0, none⟩), .string ⟨#[69, 70, 49]⟩, .int .i64 2, G 7, G 8, G 9, G 10, G 11, G 12, G 13, G 14, G 15, G 16, G 17, G 18, G 19, G 20, G 21, G 22, G 23, G 24, G 25, G 26, G 27, G 28, G 29, G 30, G 31, G 32, G 33, G 34, G 35, G 36, G 37, G 38, G 39, G 40, G 41, G 42, G 43, G 44, G 45, G 46, G 47, G 48, G 49, G 50, G 51, G 52, G 53, G 54, G 55, G 56, G 57, G 58, G 59, G 60, G 61, G 62, G 63, G 64, G 65, G 66, G 67, G 68, G 69, G 70, G 71, G 72, G 73, G 74, G 75, G 76, G 77, G 78, G 79, G 80, G 81, G 82, G 83, G 84, G 85, G 86, G 87, G 88, G 89, G 90, G 91, G 92, G 93, G 94, G 95, G 96, G 97, G 98, G 99, G 100, G 101, G 102, G 103, G 104, G 105, G 106, G 107, G 108, G 109, G 110, G 111, G 112, G 113, G 114, G 115, G 116, G 117, G 118, G 119, G 120, G 121, G 122, G 123, G 124, G 125, G 126, G 127, G 128, G 129, G 130, G 131, G 132, G 133, G 134, G 135, G 136, G 137, G 138, G 139, G 140, G 141, G 142, G 143, G 144, G 145, G 146, G 147, G 148, G 149, G 150, G 151, G 152, G 153, G 154, G 155, G 156, G 157, G 158, G 159, G 160, G 161, G 162, G 163, G 164, G 165, G 166, G 167, G 168, G 169, G 170, G 171, G 172, G 173, G 174, G 175, G 176, G 177, G 178, G 179, G 180, G 181, G 182, G 183, G 184, G 185, G 186, G 187, G 188, G 189, G 190, G 191, G 192, G 193, G 194, G 195], []⟩ wr := by
  have hmx : Tryd.prog.follows .mixedOrders = true := by kernel_rfl
  have hsz := size_mk s
  have hge : ¬ ((s.length : Int) ≤ 2) := by omega
  have hlt : (2 : Int) < (s.length : Int) := by omega
  have hl0 : ¬ s.length = 0 := by omega
  have hnil : ¬ s = [] := fun e => by rw [e] at hi; simp at hi
  have hx : ∀ (h : 2 < (⟨s.toArray⟩ : ByteArray).size), ((⟨s.toArray⟩ : ByteArray)[2]'h).toNat = (s[2]'hi).toNat := fun h => rfl
  have hcI : ¬ (((s[2]'hi).toNat : Int) = 49) := by omega
  have hcB : (((s[2]'hi).toNat : Int) != (((⟨#[69, 70, 49]⟩ : ByteArray)[2]'(by decide)).toNat : Int)) = true := by
    show (((s[2]'hi).toNat : Int) != (49 : Int)) = true
    simpa using hcI
  have hno := fun w (h : RdM w b s r) => no_any w b s r 12 2 h
  unfold ptrV at hno
  conv => arg 2; whnf
  go_upto_region 10 with (fail)
  go_quiet (fail)
  go_wp2_with (go_at_call 11; refine (hno _ (show RdM (wr.drewN nq) b s r from hr)).mono ?_; clear hno; rintro e w1 ⟨rfl, hr1, hg1⟩; dsimp only)
  first
    | exact ⟨⟨rfl, rfl, (by
      intro x9 hx9
      simp only [List.mem_cons, List.not_mem_nil, or_false] at hx9
      rcases hx9 with rfl | rfl | rfl | rfl | rfl
      all_goals first
        | rfl
        | exact congrArg some h0.symm
        | exact congrArg some h4.symm
        | exact congrArg some h5.symm)⟩, hr1, (grown_ch hg1).undrew⟩
    | exact ⟨⟨rfl, rfl, (by
      intro x9 hx9
      simp only [List.mem_cons, List.not_mem_nil, or_false] at hx9
      rcases hx9 with rfl | rfl | rfl | rfl | rfl
      all_goals first
        | rfl
        | exact congrArg some h0.symm
        | exact congrArg some h4.symm
        | exact congrArg some h5.symm)⟩, rfl, hr1, (grown_ch hg1).undrew⟩
    | exact ⟨⟨rfl, rfl, (by
      intro x9 hx9
      simp only [List.mem_cons, List.not_mem_nil, or_false] at hx9
      rcases hx9 with rfl | rfl | rfl | rfl | rfl
      all_goals first
        | rfl
        | exact congrArg some h0.symm
        | exact congrArg some h4.symm
        | exact congrArg some h5.symm)⟩, (grown_ch hg1).undrew⟩
    | exact ⟨⟨rfl, rfl, (by
      intro x9 hx9
      simp only [List.mem_cons, List.not_mem_nil, or_false] at hx9
      rcases hx9 with rfl | rfl | rfl | rfl | rfl
      all_goals first
        | rfl
        | exact congrArg some h0.symm
        | exact congrArg some h4.symm
        | exact congrArg some h5.symm)⟩, rfl, (grown_ch hg1).undrew⟩
set_option maxRecDepth 100000 in
set_option maxHeartbeats 8000000 in
theorem head_2c {wr : World} {s : List UInt8} {b : Nat} {r : Cd.Rd} (F G : Nat → Value) (Q0 : Exit → Act → World → Prop) (h0 : F 0 = .string ⟨s.toArray⟩) (h4 : F 4 = .pointer (some ⟨b, 0, none⟩)) (h5 : F 5 = .string ⟨#[69, 70, 49]⟩) (hr : RdM wr b s r) (hi : ¬ 2 < s.length) :
    Code.wp Tryd.prog ((Tryd.f6.body.map (fun c => (loopsOf c).getD 0 .skip)).getD .skip) (Exit.then (fun a' w' => FrK [0, 2, 3, 4, 5] F a' ∧ a'.tmps[6]? = some (.int .i64 3) ∧ RdM w' b s (r.no 13 2) ∧ Ch (fun k => k = b) wr w') Q0) ⟨#[.string ⟨s.toArray⟩, G 1, F 2, F 3, .pointer (some ⟨b, 0, none⟩), .string ⟨#[69, 70, 49]⟩, .int .i64 2, G 7, G 8, G 9, G 10, G 11, G 12, G 13, G 14, G 15, G 16, G 17, G 18, G 19, G 20, G 21, G 22, G 23, G 24, G 25, G 26, G 27, G 28, G 29, G 30, G 31, G 32, G 33, G 34, G 35, G 36, G 37, G 38, G 39, G 40, G 41, G 42, G 43, G 44, G 45, G 46, G 47, G 48, G 49, G 50, G 51, G 52, G 53, G 54, G 55, G 56, G 57, G 58, G 59, G 60, G 61, G 62, G 63, G 64, G 65, G 66, G 67, G 68, G 69, G 70, G 71, G 72, G 73, G 74, G 75, G 76, G 77, G 78, G 79, G 80, G 81, G 82, G 83, G 84, G 85, G 86, G 87, G 88, G 89, G 90, G 91, G 92, G 93, G 94, G 95, G 96, G 97, G 98, G 99, G 100, G 101, G 102, G 103, G 104, G 105, G 106, G 107, G 108, G 109, G 110, G 111, G 112, G 113, G 114, G 115, G 116, G 117, G 118, G 119, G 120, G 121, G 122, G 123, G 124, G 125, G 126, G 127, G 128, G 129, G 130, G 131, G 132, G 133, G 134, G 135, G 136, G 137, G 138, G 139, G 140, G 141, G 142, G 143, G 144, G 145, G 146, G 147, G 148, G 149, G 150, G 151, G 152, G 153, G 154, G 155, G 156, G 157, G 158, G 159, G 160, G 161, G 162, G 163, G 164, G 165, G 166, G 167, G 168, G 169, G 170, G 171, G 172, G 173, G 174, G 175, G 176, G 177, G 178, G 179, G 180, G 181, G 182, G 183, G 184, G 185, G 186, G 187, G 188, G 189, G 190, G 191, G 192, G 193, G 194, G 195], []⟩ wr := by
  have hmx : Tryd.prog.follows .mixedOrders = true := by kernel_rfl
  have hsz := size_mk s
  have hge : (s.length : Int) ≤ 2 := by omega
  have hno := no_any wr b _ r 13 2 hr
  unfold ptrV at hno
  conv => arg 2; whnf
  go_wp2_with (go_at_call 11; refine hno.mono ?_; clear hno; rintro e w1 ⟨rfl, hr1, hg1⟩; dsimp only)
  first
    | exact ⟨⟨rfl, rfl, (by
      intro x9 hx9
      simp only [List.mem_cons, List.not_mem_nil, or_false] at hx9
      rcases hx9 with rfl | rfl | rfl | rfl | rfl
      all_goals first
        | rfl
        | exact congrArg some h0.symm
        | exact congrArg some h4.symm
        | exact congrArg some h5.symm)⟩, hr1, grown_ch hg1⟩
    | exact ⟨⟨rfl, rfl, (by
      intro x9 hx9
      simp only [List.mem_cons, List.not_mem_nil, or_false] at hx9
      rcases hx9 with rfl | rfl | rfl | rfl | rfl
      all_goals first
        | rfl
        | exact congrArg some h0.symm
        | exact congrArg some h4.symm
        | exact congrArg some h5.symm)⟩, rfl, hr1, grown_ch hg1⟩
    | exact ⟨⟨rfl, rfl, (by
      intro x9 hx9
      simp only [List.mem_cons, List.not_mem_nil, or_false] at hx9
      rcases hx9 with rfl | rfl | rfl | rfl | rfl
      all_goals first
        | rfl
        | exact congrArg some h0.symm
        | exact congrArg some h4.symm
        | exact congrArg some h5.symm)⟩, grown_ch hg1⟩
    | exact ⟨⟨rfl, rfl, (by
      intro x9 hx9
      simp only [List.mem_cons, List.not_mem_nil, or_false] at hx9
      rcases hx9 with rfl | rfl | rfl | rfl | rfl
      all_goals first
        | rfl
        | exact congrArg some h0.symm
        | exact congrArg some h4.symm
        | exact congrArg some h5.symm)⟩, rfl, grown_ch hg1⟩
end Go.Proofs.YticmoofjjikefaaDoor

namespace Go.Proofs.YticmoofjjikefaaDoor
open Go.RowKit

/-- What a round makes of the Reader. -/
def hd3 (s : List UInt8) (j : Nat) (r : Cd.Rd) : Cd.Rd := match s[j]?, Cd.head[j]? with
    | none, _ => r.no 13 j
    | some c, some d => if c = d then r else r.no 12 j
    | some _, none => r
theorem head_succ (s : List UInt8) (n : Nat) (r : Cd.Rd) : Cd.Rd.head s (n + 1) r = Cd.Rd.head s n (hd3 s (2 - n) r) := rfl
theorem hd3_none {s : List UInt8} {j : Nat} {r : Cd.Rd} (h : ¬ j < s.length) : hd3 s j r = r.no 13 j := by
  unfold hd3
  rw [List.getElem?_eq_none (by omega)]
theorem hd3_some {s : List UInt8} {j : Nat} {r : Cd.Rd} {d : UInt8} (h : j < s.length) (hd : Cd.head[j]? = some d) : hd3 s j r = if (s[j]'h).toNat = d.toNat then r else r.no 12 j := by
  unfold hd3
  rw [List.getElem?_eq_getElem h, hd]
  by_cases e : s[j] = d
  · rw [e]; simp
  · have : ¬ (s[j]'h).toNat = d.toNat := fun e2 => e (UInt8.toNat_inj.1 e2)
    simp [e, this]
set_option maxRecDepth 100000 in
set_option maxHeartbeats 8000000 in
theorem head_exit {wr : World} {s : List UInt8} {b : Nat} (F G : Nat → Value) (Q0 : Exit → Act → World → Prop) (J : Act → World → Prop) (h0 : F 0 = .string ⟨s.toArray⟩) (h4 : F 4 = .pointer (some ⟨b, 0, none⟩)) (h5 : F 5 = .string ⟨#[69, 70, 49]⟩) (hexit : ∀ a', FrK [0, 2, 3, 4, 5] F a' → Q0 (.exit 0) a' wr) :
    Code.wp Tryd.prog ((Tryd.f6.body.map (fun c => (loopsOf c).getD 0 .skip)).getD .skip) (Exit.then J Q0) ⟨#[.string ⟨s.toArray⟩, G 1, F 2, F 3, .pointer (some ⟨b, 0, none⟩), .string ⟨#[69, 70, 49]⟩, .int .i64 3, G 7, G 8, G 9, G 10, G 11, G 12, G 13, G 14, G 15, G 16, G 17, G 18, G 19, G 20, G 21, G 22, G 23, G 24, G 25, G 26, G 27, G 28, G 29, G 30, G 31, G 32, G 33, G 34, G 35, G 36, G 37, G 38, G 39, G 40, G 41, G 42, G 43, G 44, G 45, G 46, G 47, G 48, G 49, G 50, G 51, G 52, G 53, G 54, G 55, G 56, G 57, G 58, G 59, G 60, G 61, G 62, G 63, G 64, G 65, G 66, G 67, G 68, G 69, G 70, G 71, G 72, G 73, G 74, G 75, G 76, G 77, G 78, G 79, G 80, G 81, G 82, G 83, G 84, G 85, G 86, G 87, G 88, G 89, G 90, G 91, G 92, G 93, G 94, G 95, G 96, G 97, G 98, G 99, G 100, G 101, G 102, G 103, G 104, G 105, G 106, G 107, G 108, G 109, G 110, G 111, G 112, G 113, G 114, G 115, G 116, G 117, G 118, G 119, G 120, G 121, G 122, G 123, G 124, G 125, G 126, G 127, G 128, G 129, G 130, G 131, G 132, G 133, G 134, G 135, G 136, G 137, G 138, G 139, G 140, G 141, G 142, G 143, G 144, G 145, G 146, G 147, G 148, G 149, G 150, G 151, G 152, G 153, G 154, G 155, G 156, G 157, G 158, G 159, G 160, G 161, G 162, G 163, G 164, G 165, G 166, G 167, G 168, G 169, G 170, G 171, G 172, G 173, G 174, G 175, G 176, G 177, G 178, G 179, G 180, G 181, G 182, G 183, G 184, G 185, G 186, G 187, G 188, G 189, G 190, G 191, G 192, G 193, G 194, G 195], []⟩ wr := by
  conv => arg 2; whnf
  go_wp2
  refine ⟨rfl, rfl, fun x9 hx9 => ?_⟩
  simp only [List.mem_cons, List.not_mem_nil, or_false] at hx9
  rcases hx9 with rfl | rfl | rfl | rfl | rfl
  all_goals first
    | rfl
    | exact congrArg some h0.symm
    | exact congrArg some h4.symm
    | exact congrArg some h5.symm
theorem head_loop {W : World} {s : List UInt8} {b : Nat} {r0 : Cd.Rd} (F : Nat → Value) (Q0 : Exit → Act → World → Prop) (h0 : F 0 = .string ⟨s.toArray⟩) (h4 : F 4 = .pointer (some ⟨b, 0, none⟩)) (h5 : F 5 = .string ⟨#[69, 70, 49]⟩) (hr : RdM W b s r0) (a0 : Act) (hfr : FrK [0, 2, 3, 4, 5] F a0) (h6 : a0.tmps[6]? = some (.int .i64 0))
    (hexit : ∀ a' w', FrK [0, 2, 3, 4, 5] F a' → RdM w' b s (Cd.Rd.head s 3 r0) → Ch (fun k => k = b) W w' → Q0 (.exit 0) a' w') : Code.wp Tryd.prog (Code.loop ((Tryd.f6.body.map (fun c => (loopsOf c).getD 0 .skip)).getD .skip)) Q0 a0 W := by
  refine wp_loop (fun a w => ∃ (i : Nat) (r : Cd.Rd), i ≤ 3 ∧ FrK [0, 2, 3, 4, 5] F a ∧ a.tmps[6]? = some (.int .i64 (i : Nat)) ∧ RdM w b s r ∧ Ch (fun k => k = b) W w ∧ Cd.Rd.head s (3 - i) r = Cd.Rd.head s 3 r0) (fun a _ => 3 - (intOf (a.tmps.getD 6 undef)).toNat) ⟨0, r0, Nat.zero_le _, hfr, h6, hr, Ch.refl _ _, rfl⟩ ?_
  rintro a w ⟨i, r, hi, hf, hi6, hd, hch, hrel⟩
  have hmu : (intOf (a.tmps.getD 6 undef)).toNat = i := by simp [Array.getD_eq_getD_getElem?, hi6, intOf]
  rw [hmu]
  have fin : ∀ (r' : Cd.Rd) (a' : Act) (w' : World), i < 3 → hd3 s i r = r' → FrK [0, 2, 3, 4, 5] F a' → a'.tmps[6]? = some (.int .i64 ((i + 1 : Nat) : Int)) → RdM w' b s r' → Ch (fun k => k = b) w w' → (∃ (i : Nat) (r : Cd.Rd), i ≤ 3 ∧ FrK [0, 2, 3, 4, 5] F a' ∧ a'.tmps[6]? = some (.int .i64 (i : Nat)) ∧ RdM w' b s r ∧ Ch (fun k => k = b) W w' ∧ Cd.Rd.head s (3 - i) r = Cd.Rd.head s 3 r0) ∧ 3 - (intOf (a'.tmps.getD 6 undef)).toNat < 3 - i := fun r' a' w' hlt e b1 b2 b3 b4 => by
    refine ⟨⟨i + 1, r', by omega, b1, b2, b3, hch.trans b4 (fun _ e => .inl e), ?_⟩, ?_⟩
    · rw [← hrel, show 3 - i = (2 - i) + 1 by omega, head_succ, show 2 - (2 - i) = i by omega, e, show 3 - (i + 1) = 2 - i by omega]
    · simp only [Array.getD_eq_getD_getElem?, b2, Option.getD_some, intOf]
      omega
  obtain ⟨G, rfl, hG⟩ := act_open hf.sz hf.df
  have f0 : G 0 = F 0 := hG 0 _ (hf.k 0 (by simp))
  have f2 : G 2 = F 2 := hG 2 _ (hf.k 2 (by simp))
  have f3 : G 3 = F 3 := hG 3 _ (hf.k 3 (by simp))
  have f4 : G 4 = F 4 := hG 4 _ (hf.k 4 (by simp))
  have f5 : G 5 = F 5 := hG 5 _ (hf.k 5 (by simp))
  have f6 : G 6 = .int .i64 (i : Nat) := hG 6 _ hi6
  rw [h0] at f0
  rw [h4] at f4
  rw [h5] at f5
  rw [f0, f2, f3, f4, f5, f6]
  clear hG hf hi6
  have hc : i = 0 ∨ i = 1 ∨ i = 2 ∨ i = 3 := by omega
  rcases hc with rfl | rfl | rfl | rfl
  · by_cases hl : 0 < s.length
    · by_cases hc : (s[0]'hl).toNat = 69
      · refine wp_mono (head_0a F G Q0 h0 h4 h5 hd hl hc) ?_
        intro e a' w' h
        cases e <;> first | exact fin r a' w' (by omega) (by rw [hd3_some hl (d := 69) rfl]; exact if_pos hc) h.1 h.2.1 h.2.2.1 h.2.2.2 | exact h
      · refine wp_mono (head_0b F G Q0 h0 h4 h5 hd hl hc) ?_
        intro e a' w' h
        cases e <;> first | exact fin _ a' w' (by omega) (by rw [hd3_some hl (d := 69) rfl]; exact if_neg hc) h.1 h.2.1 h.2.2.1 h.2.2.2 | exact h
    · refine wp_mono (head_0c F G Q0 h0 h4 h5 hd hl) ?_
      intro e a' w' h
      cases e <;> first | exact fin _ a' w' (by omega) (hd3_none hl) h.1 h.2.1 h.2.2.1 h.2.2.2 | exact h
  · by_cases hl : 1 < s.length
    · by_cases hc : (s[1]'hl).toNat = 70
      · refine wp_mono (head_1a F G Q0 h0 h4 h5 hd hl hc) ?_
        intro e a' w' h
        cases e <;> first | exact fin r a' w' (by omega) (by rw [hd3_some hl (d := 70) rfl]; exact if_pos hc) h.1 h.2.1 h.2.2.1 h.2.2.2 | exact h
      · refine wp_mono (head_1b F G Q0 h0 h4 h5 hd hl hc) ?_
        intro e a' w' h
        cases e <;> first | exact fin _ a' w' (by omega) (by rw [hd3_some hl (d := 70) rfl]; exact if_neg hc) h.1 h.2.1 h.2.2.1 h.2.2.2 | exact h
    · refine wp_mono (head_1c F G Q0 h0 h4 h5 hd hl) ?_
      intro e a' w' h
      cases e <;> first | exact fin _ a' w' (by omega) (hd3_none hl) h.1 h.2.1 h.2.2.1 h.2.2.2 | exact h
  · by_cases hl : 2 < s.length
    · by_cases hc : (s[2]'hl).toNat = 49
      · refine wp_mono (head_2a F G Q0 h0 h4 h5 hd hl hc) ?_
        intro e a' w' h
        cases e <;> first | exact fin r a' w' (by omega) (by rw [hd3_some hl (d := 49) rfl]; exact if_pos hc) h.1 h.2.1 h.2.2.1 h.2.2.2 | exact h
      · refine wp_mono (head_2b F G Q0 h0 h4 h5 hd hl hc) ?_
        intro e a' w' h
        cases e <;> first | exact fin _ a' w' (by omega) (by rw [hd3_some hl (d := 49) rfl]; exact if_neg hc) h.1 h.2.1 h.2.2.1 h.2.2.2 | exact h
    · refine wp_mono (head_2c F G Q0 h0 h4 h5 hd hl) ?_
      intro e a' w' h
      cases e <;> first | exact fin _ a' w' (by omega) (hd3_none hl) h.1 h.2.1 h.2.2.1 h.2.2.2 | exact h
  · exact head_exit F G Q0 _ h0 h4 h5 (fun a' hk => hexit a' w hk (by rw [← hrel]; exact hd) hch)
end Go.Proofs.YticmoofjjikefaaDoor
