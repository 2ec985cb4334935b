/-
  The document's fun: a round of the loop over the instructions that goes on.
  The document's fun: a round of the loop over the instructions that goes on two ways.
  The document's fun: the loop over the instructions, its end.
  The document's fun: the loop over the instructions, as a whole.
-/
import Derived.Test.YtpjbfdpblgjmfaaGreatDoorMEg
set_option linter.unusedVariables false
set_option linter.unusedSimpArgs false
namespace Go.Proofs.YtpjbfdpblgjmfaaGreatDoor
open Go.RowKit Go.Maps

theorem KnM.lt {w : World} {mB n : Nat} {K : Cd.Kn} (h : KnM w mB n K) : mB < w.heap.size := by
  obtain ⟨D, h1, _⟩ := h
  exact h1.lt
theorem new2 (w : World) (A : Obj) (v : Value) (r : Array Value) (t : TypeId) : (((w.alloc A).alloc (.cells (#[v] ++ r) t)).drew).cell? ⟨w.heap.size + 1, 0, none⟩ = some v := by
  have h := World.alloc_heap_new (w.alloc A) (.cells (#[v] ++ r) t)
  rw [World.size_alloc] at h
  show ((w.alloc A).alloc (.cells (#[v] ++ r) t)).cell? _ = _
  simp only [World.cell?, h]
  simp
  rw [Array.getElem?_append_left (by simp)]
  rfl
theorem old2 (b : Nat) (w : World) (o : Nat) (v : Value) (h : w.cell? ⟨b, o, none⟩ = some v) : ∀ A B, (((w.alloc A).alloc B).drew).cell? ⟨b, o, none⟩ = some v := fun A B =>
  (grown_drew (grown_alloc (grown_alloc (grown_refl w none) A) B)).cell h (by simp)
set_option maxRecDepth 100000 in
set_option maxHeartbeats 8000000 in
theorem flow_on_one {wr : World} {C : Cd.Code} {f : Cd.Fun} {vb vc vd : Value} {cB fB gv kv cv i mB m : Nat} {x : Cd.Ins} {K : Cd.Kn} {n tk pt : Int} (F G : Nat → Value) (Q0 : Exit → Act → World → Prop) (h3 : F 3 = .pointer (some ⟨cB, 0, none⟩)) (h4 : F 4 = .pointer (some ⟨fB, 0, none⟩)) (h10 : F 10 = .map (some mB))
    (hF : Fc C f vb vc vd (.slice (some ⟨gv, kv, none⟩) f.ins.length cv) cB fB wr) (hx : f.ins[i]? = some x) (hc : wr.cell? ⟨gv, kv + i * 4, none⟩ = some (.int .i64 x.op) ∧ wr.cell? ⟨gv, kv + i * 4 + 1, none⟩ = some (.int .i64 x.a) ∧ wr.cell? ⟨gv, kv + i * 4 + 2, none⟩ = some (.int .i64 x.b) ∧ wr.cell? ⟨gv, kv + i * 4 + 3, none⟩ = some (.int .i64 x.n)) (hn : f.ins.length ≤ 65535)
    (hM : KnM wr mB m K) (hT : ∀ w', Below wr.heap.size wr w' → Calls Tryz.prog 71 #[codeV2 C vb vc vd, insV2 x] w' fun e w2 => e = .returned (.tuple #[.int .i64 tk, .int .i64 pt]) ∧ Below w'.heap.size w' w2) (hn0 : 0 ≤ n ∧ n ≤ 4000) (htk : 0 ≤ tk ∧ tk ≤ 100000) (hpt : 0 ≤ pt ∧ pt ≤ 1) (hK : K i = some n) (hle : ¬ n < tk) (hsm : ¬ 4000 < n - tk + pt) (h17n : ¬ x.op = 17) (h16n : ¬ x.op = 16) (h18n : ¬ x.op = 18) (h19n : ¬ x.op = 19) (hm : m + 2 < 1000000) (hwa : (Lit.int .i64 x.a).wf = true) (hret : ∀ a' w', a'.defers = [] → a'.tmps[6]? = some (.int .i64 17) → a'.tmps[7]? = some (.int .i64 (i : Nat)) → wr.grownBy w' (some mB) → Cd.flow1 i (n - tk + pt) [(i : Int) + 1] K = none → Q0 .ret a' w') :
    Code.wp Tryz.prog ((Tryz.f38.body.map (fun c => (loopsOf c).getD 1 .skip)).getD .skip) (Exit.then (fun a' w' => ∃ K' m', Cd.flow1 i (n - tk + pt) [(i : Int) + 1] K = some K' ∧ m' ≤ m + 2 ∧ FrL [0, 1, 2, 3, 4, 10] F a' ∧ a'.tmps[11]? = some (.int .i64 ((i : Int) + 1)) ∧ KnM w' mB m' K' ∧ wr.grownBy w' (some mB)) Q0) ⟨#[F 0, F 1, F 2, .pointer (some ⟨cB, 0, none⟩), .pointer (some ⟨fB, 0, none⟩), G 5, G 6, G 7, G 8, G 9, .map (some mB), .int .i64 (i : Nat), G 12, G 13, G 14, G 15, G 16, G 17, G 18, G 19, G 20, G 21, G 22, G 23, G 24, G 25, G 26, G 27, G 28, G 29, G 30, G 31, G 32, G 33, G 34, G 35, G 36, G 37, G 38, G 39, G 40, G 41, G 42, G 43, G 44, G 45, G 46, G 47, G 48, G 49, G 50, G 51, G 52, G 53, G 54, G 55, G 56, G 57, G 58, G 59, G 60, G 61, G 62, G 63, G 64, G 65, G 66, G 67, G 68, G 69, G 70, G 71, G 72, G 73, G 74, G 75, G 76, G 77, G 78, G 79, G 80, G 81, G 82, G 83, G 84, G 85, G 86, G 87, G 88, G 89, G 90, G 91, G 92, G 93, G 94, G 95, G 96, G 97, G 98, G 99, G 100, G 101, G 102, G 103, G 104, G 105, G 106, G 107, G 108, G 109, G 110, G 111, G 112, G 113, G 114, G 115, G 116, G 117, G 118, G 119, G 120, G 121, G 122, G 123, G 124, G 125, G 126, G 127, G 128, G 129, G 130, G 131, G 132, G 133, G 134, G 135, G 136, G 137, G 138, G 139, G 140, G 141, G 142, G 143, G 144, G 145, G 146, G 147, G 148, G 149, G 150, G 151, G 152, G 153, G 154, G 155, G 156, G 157, G 158, G 159, G 160, G 161, G 162, G 163, G 164, G 165, G 166, G 167, G 168, G 169, G 170, G 171, G 172, G 173, G 174, G 175, G 176, G 177, G 178, G 179, G 180, G 181], []⟩ wr := by
  have hlt : i < f.ins.length := (List.getElem?_eq_some_iff.1 hx).1
  have hi0 : (0 : Int) ≤ (i : Int) := by omega
  have hi1 : (i : Int) < (f.ins.length : Int) := by omega
  have hw : IntKind.i64.wrap ((i : Int) + 1) = (i : Int) + 1 := IntWalk.i64_in _ (by omega)
  obtain ⟨c0, c1, c2, c3, c4, c5, c6⟩ := hF.cells
  obtain ⟨c7, c8, c9, c10⟩ := hc
  have hwi : (Lit.int .i64 (i : Int)).wf = true := by simp [Lit.wf, IntKind.min, IntKind.max, IntKind.signed, IntKind.bits]; omega
  have hl : ∀ (w : World), KnM w mB m K → ∀ (ops : Array Oper) (rest : List Oper) (o : Oper) (a : Act) (Q : Exit → Act → World → Prop) (y z : Operand), o.guard = none → o.op = Op.lookup 181 y z true → a.eval y = .map (some mB) → a.eval z = .int .i64 (i : Int) → wpList Tryz.prog ops Q rest (a.put o.dst (.tuple #[.int .i64 n, .bool true])) w → wpList Tryz.prog ops Q (o :: rest) a w := fun w hMw ops rest o a Q y z e1 e2 e3 e4 h => look_kn w e1 y z e2 mB m K e3 hMw i hwi e4 (by rw [hK]; exact h)
  have hbX : Below wr.heap.size wr (wr.alloc (.cells #[.int .i64 x.op, .int .i64 x.a, .int .i64 x.b, .int .i64 x.n] 123)) := (Below.refl _ _).alloc (Nat.le_refl _) _
  have x0 : ∀ w2, Below (wr.alloc (.cells #[.int .i64 x.op, .int .i64 x.a, .int .i64 x.b, .int .i64 x.n] 123)).heap.size (wr.alloc (.cells #[.int .i64 x.op, .int .i64 x.a, .int .i64 x.b, .int .i64 x.n] 123)) w2 → w2.cell? ⟨wr.heap.size, 0, none⟩ = some (.int .i64 x.op) := fun w2 hb => (hb.cell (p := ⟨wr.heap.size, 0, none⟩) (by simp)).trans (by simp)
  have xa : ∀ w2, Below (wr.alloc (.cells #[.int .i64 x.op, .int .i64 x.a, .int .i64 x.b, .int .i64 x.n] 123)).heap.size (wr.alloc (.cells #[.int .i64 x.op, .int .i64 x.a, .int .i64 x.b, .int .i64 x.n] 123)) w2 → w2.cell? ⟨wr.heap.size, 1, none⟩ = some (.int .i64 x.a) := fun w2 hb => (hb.cell (p := ⟨wr.heap.size, 1, none⟩) (by simp)).trans (by simp)
  have hw1 : IntKind.i64.wrap (n - tk) = n - tk := IntWalk.i64_in _ (by omega)
  have hw2 : IntKind.i64.wrap (n - tk + pt) = n - tk + pt := IntWalk.i64_in _ (by omega)
  obtain ⟨d0, d1, d2, d3, d4, d5, d6⟩ := (hF.keep hbX).cells
  have hwn : (Lit.int .i64 (n - tk + pt)).wf = true := by simp [Lit.wf, IntKind.min, IntKind.max, IntKind.signed, IntKind.bits]; omega
  have e18 : (x.op == 18) = false := by simpa using h18n
  have e19 : (x.op == 19) = false := by simpa using h19n
  have n18 : (x.op != 18) = true := by simpa using h18n
  have n17 : (x.op != 17) = true := by simpa using h17n
  have n16 : (x.op != 16) = true := by simpa using h16n
  unfold codeV2 insV2 at hT
  replace hm := hid hm
  replace hwn := hid hwn
  replace hwa := hid hwa
  clear hK hF hx
  conv => arg 2; whnf
  go_wp2_with (first
    | (at_lookup; refine hl _ (hM.kept (World.grownBy_alloc wr (.cells #[.int .i64 x.op, .int .i64 x.a, .int .i64 x.b, .int .i64 x.n] 123) none) (by simp)) _ _ _ _ _ _ _ rfl rfl rfl rfl ?_)
    | (go_at_call 71; refine (hT _ hbX).mono ?_; clear hT; rintro e w2 ⟨rfl, hb2⟩; have y0 := x0 w2 hb2; have y1 := xa w2 hb2; dsimp only)
    | go_in)
  have hwi1 : (Lit.int .i64 ((i : Int) + 1)).wf = true := by simp [Lit.wf, IntKind.min, IntKind.max, IntKind.signed, IntKind.bits]; omega
  have hg2 : wr.grownBy w2 (some mB) := below_grown (below_trans hbX hb2)
  have hM2 : KnM w2 mB m K := hM.kept (below_grown (o := none) (below_trans hbX hb2)) (by simp)
  have hlm := hM2.lt
  refine to_loop2 (W := (((w2.alloc (.cells #[.int .i64 ((i : Int) + 1)] 3)).alloc _).drew)) (gt := w2.heap.size + 1) (n := n - tk + pt) (ts := [(i : Int) + 1]) _ _ rfl rfl rfl rfl rfl rfl rfl (((hM2.kept (World.grownBy_alloc _ _ none) (by simp)).kept (World.grownBy_alloc _ _ none) (by simp)).drew) hm.out (by simp) (fun _ => rfl) ?_ (by omega) (fun y h => by simp at h; subst h; exact hwi1) hwn.out (fun a' w' e1 e2 e3 e4 e5 => hret a' w' e1 e2 e3 (grown_trans (grown_drew (grown_alloc (grown_alloc hg2 _) _)) e4) e5) ?_
  · intro j y hy
    cases j with
    | zero => simp at hy; subst hy; exact new2 _ _ _ _ _
    | succ j => simp at hy
  intro a4 w4 K4 m4 hf4 hk4 hm4 hM4 hg4
  obtain ⟨G, rfl, hG⟩ := act_open2 hf4.sz hf4.df
  have g0 : G 0 = F 0 := hG 0 _ (hf4.k 0 (by simp))
  have g1 : G 1 = F 1 := hG 1 _ (hf4.k 1 (by simp))
  have g2 : G 2 = F 2 := hG 2 _ (hf4.k 2 (by simp))
  have g3 : G 3 = .pointer (some ⟨cB, 0, none⟩) := hG 3 _ (hf4.k 3 (by simp))
  have g4 : G 4 = .pointer (some ⟨fB, 0, none⟩) := hG 4 _ (hf4.k 4 (by simp))
  have g10 : G 10 = .map (some mB) := hG 10 _ (hf4.k 10 (by simp))
  have g11 : G 11 = .int .i64 (i : Nat) := hG 11 _ (hf4.k 11 (by simp))
  rw [g0, g1, g2, g3, g4, g10, g11]
  clear hG hf4
  go_wp2
  exact ⟨K4, m4, hk4, hm4, ⟨rfl, rfl, (by
      intro x9 hx9
      simp only [List.mem_cons, List.not_mem_nil, or_false] at hx9
      rcases hx9 with rfl | rfl | rfl | rfl | rfl | rfl
      all_goals first
        | rfl
        | exact congrArg some h3.symm
        | exact congrArg some h4.symm
        | exact congrArg some h10.symm)⟩, rfl, hM4, grown_trans (grown_drew (grown_alloc (grown_alloc hg2 _) _)) hg4⟩
set_option maxRecDepth 100000 in
set_option maxHeartbeats 8000000 in
theorem flow_on_jump {wr : World} {C : Cd.Code} {f : Cd.Fun} {vb vc vd : Value} {cB fB gv kv cv i mB m : Nat} {x : Cd.Ins} {K : Cd.Kn} {n tk pt : Int} (F G : Nat → Value) (Q0 : Exit → Act → World → Prop) (h3 : F 3 = .pointer (some ⟨cB, 0, none⟩)) (h4 : F 4 = .pointer (some ⟨fB, 0, none⟩)) (h10 : F 10 = .map (some mB))
    (hF : Fc C f vb vc vd (.slice (some ⟨gv, kv, none⟩) f.ins.length cv) cB fB wr) (hx : f.ins[i]? = some x) (hc : wr.cell? ⟨gv, kv + i * 4, none⟩ = some (.int .i64 x.op) ∧ wr.cell? ⟨gv, kv + i * 4 + 1, none⟩ = some (.int .i64 x.a) ∧ wr.cell? ⟨gv, kv + i * 4 + 2, none⟩ = some (.int .i64 x.b) ∧ wr.cell? ⟨gv, kv + i * 4 + 3, none⟩ = some (.int .i64 x.n)) (hn : f.ins.length ≤ 65535)
    (hM : KnM wr mB m K) (hT : ∀ w', Below wr.heap.size wr w' → Calls Tryz.prog 71 #[codeV2 C vb vc vd, insV2 x] w' fun e w2 => e = .returned (.tuple #[.int .i64 tk, .int .i64 pt]) ∧ Below w'.heap.size w' w2) (hn0 : 0 ≤ n ∧ n ≤ 4000) (htk : 0 ≤ tk ∧ tk ≤ 100000) (hpt : 0 ≤ pt ∧ pt ≤ 1) (hK : K i = some n) (hle : ¬ n < tk) (hsm : ¬ 4000 < n - tk + pt) (hop : x.op = 18) (hm : m + 2 < 1000000) (hwa : (Lit.int .i64 x.a).wf = true) (hret : ∀ a' w', a'.defers = [] → a'.tmps[6]? = some (.int .i64 17) → a'.tmps[7]? = some (.int .i64 (i : Nat)) → wr.grownBy w' (some mB) → Cd.flow1 i (n - tk + pt) [x.a] K = none → Q0 .ret a' w') :
    Code.wp Tryz.prog ((Tryz.f38.body.map (fun c => (loopsOf c).getD 1 .skip)).getD .skip) (Exit.then (fun a' w' => ∃ K' m', Cd.flow1 i (n - tk + pt) [x.a] K = some K' ∧ m' ≤ m + 2 ∧ FrL [0, 1, 2, 3, 4, 10] F a' ∧ a'.tmps[11]? = some (.int .i64 ((i : Int) + 1)) ∧ KnM w' mB m' K' ∧ wr.grownBy w' (some mB)) Q0) ⟨#[F 0, F 1, F 2, .pointer (some ⟨cB, 0, none⟩), .pointer (some ⟨fB, 0, none⟩), G 5, G 6, G 7, G 8, G 9, .map (some mB), .int .i64 (i : Nat), G 12, G 13, G 14, G 15, G 16, G 17, G 18, G 19, G 20, G 21, G 22, G 23, G 24, G 25, G 26, G 27, G 28, G 29, G 30, G 31, G 32, G 33, G 34, G 35, G 36, G 37, G 38, G 39, G 40, G 41, G 42, G 43, G 44, G 45, G 46, G 47, G 48, G 49, G 50, G 51, G 52, G 53, G 54, G 55, G 56, G 57, G 58, G 59, G 60, G 61, G 62, G 63, G 64, G 65, G 66, G 67, G 68, G 69, G 70, G 71, G 72, G 73, G 74, G 75, G 76, G 77, G 78, G 79, G 80, G 81, G 82, G 83, G 84, G 85, G 86, G 87, G 88, G 89, G 90, G 91, G 92, G 93, G 94, G 95, G 96, G 97, G 98, G 99, G 100, G 101, G 102, G 103, G 104, G 105, G 106, G 107, G 108, G 109, G 110, G 111, G 112, G 113, G 114, G 115, G 116, G 117, G 118, G 119, G 120, G 121, G 122, G 123, G 124, G 125, G 126, G 127, G 128, G 129, G 130, G 131, G 132, G 133, G 134, G 135, G 136, G 137, G 138, G 139, G 140, G 141, G 142, G 143, G 144, G 145, G 146, G 147, G 148, G 149, G 150, G 151, G 152, G 153, G 154, G 155, G 156, G 157, G 158, G 159, G 160, G 161, G 162, G 163, G 164, G 165, G 166, G 167, G 168, G 169, G 170, G 171, G 172, G 173, G 174, G 175, G 176, G 177, G 178, G 179, G 180, G 181], []⟩ wr := by
  have hlt : i < f.ins.length := (List.getElem?_eq_some_iff.1 hx).1
  have hi0 : (0 : Int) ≤ (i : Int) := by omega
  have hi1 : (i : Int) < (f.ins.length : Int) := by omega
  have hw : IntKind.i64.wrap ((i : Int) + 1) = (i : Int) + 1 := IntWalk.i64_in _ (by omega)
  obtain ⟨c0, c1, c2, c3, c4, c5, c6⟩ := hF.cells
  obtain ⟨c7, c8, c9, c10⟩ := hc
  have hwi : (Lit.int .i64 (i : Int)).wf = true := by simp [Lit.wf, IntKind.min, IntKind.max, IntKind.signed, IntKind.bits]; omega
  have hl : ∀ (w : World), KnM w mB m K → ∀ (ops : Array Oper) (rest : List Oper) (o : Oper) (a : Act) (Q : Exit → Act → World → Prop) (y z : Operand), o.guard = none → o.op = Op.lookup 181 y z true → a.eval y = .map (some mB) → a.eval z = .int .i64 (i : Int) → wpList Tryz.prog ops Q rest (a.put o.dst (.tuple #[.int .i64 n, .bool true])) w → wpList Tryz.prog ops Q (o :: rest) a w := fun w hMw ops rest o a Q y z e1 e2 e3 e4 h => look_kn w e1 y z e2 mB m K e3 hMw i hwi e4 (by rw [hK]; exact h)
  have hbX : Below wr.heap.size wr (wr.alloc (.cells #[.int .i64 x.op, .int .i64 x.a, .int .i64 x.b, .int .i64 x.n] 123)) := (Below.refl _ _).alloc (Nat.le_refl _) _
  have x0 : ∀ w2, Below (wr.alloc (.cells #[.int .i64 x.op, .int .i64 x.a, .int .i64 x.b, .int .i64 x.n] 123)).heap.size (wr.alloc (.cells #[.int .i64 x.op, .int .i64 x.a, .int .i64 x.b, .int .i64 x.n] 123)) w2 → w2.cell? ⟨wr.heap.size, 0, none⟩ = some (.int .i64 x.op) := fun w2 hb => (hb.cell (p := ⟨wr.heap.size, 0, none⟩) (by simp)).trans (by simp)
  have xa : ∀ w2, Below (wr.alloc (.cells #[.int .i64 x.op, .int .i64 x.a, .int .i64 x.b, .int .i64 x.n] 123)).heap.size (wr.alloc (.cells #[.int .i64 x.op, .int .i64 x.a, .int .i64 x.b, .int .i64 x.n] 123)) w2 → w2.cell? ⟨wr.heap.size, 1, none⟩ = some (.int .i64 x.a) := fun w2 hb => (hb.cell (p := ⟨wr.heap.size, 1, none⟩) (by simp)).trans (by simp)
  have hw1 : IntKind.i64.wrap (n - tk) = n - tk := IntWalk.i64_in _ (by omega)
  have hw2 : IntKind.i64.wrap (n - tk + pt) = n - tk + pt := IntWalk.i64_in _ (by omega)
  obtain ⟨d0, d1, d2, d3, d4, d5, d6⟩ := (hF.keep hbX).cells
  have hwn : (Lit.int .i64 (n - tk + pt)).wf = true := by simp [Lit.wf, IntKind.min, IntKind.max, IntKind.signed, IntKind.bits]; omega
  replace x0 := fun w2 hb => (x0 w2 hb).trans (show some (Value.int .i64 x.op) = some (.int .i64 18) by rw [hop])
  clear hop
  unfold codeV2 insV2 at hT
  replace hm := hid hm
  replace hwn := hid hwn
  replace hwa := hid hwa
  clear hK hF hx
  conv => arg 2; whnf
  go_wp2_with (first
    | (at_lookup; refine hl _ (hM.kept (World.grownBy_alloc wr (.cells #[.int .i64 x.op, .int .i64 x.a, .int .i64 x.b, .int .i64 x.n] 123) none) (by simp)) _ _ _ _ _ _ _ rfl rfl rfl rfl ?_)
    | (go_at_call 71; refine (hT _ hbX).mono ?_; clear hT; rintro e w2 ⟨rfl, hb2⟩; have y0 := x0 w2 hb2; have y1 := xa w2 hb2; have z0 := old2 (wr.heap.size) w2 0 _ y0; dsimp only)
    | go_in)
  have hwi1 : (Lit.int .i64 ((i : Int) + 1)).wf = true := by simp [Lit.wf, IntKind.min, IntKind.max, IntKind.signed, IntKind.bits]; omega
  have hg2 : wr.grownBy w2 (some mB) := below_grown (below_trans hbX hb2)
  have hM2 : KnM w2 mB m K := hM.kept (below_grown (o := none) (below_trans hbX hb2)) (by simp)
  have hlm := hM2.lt
  refine to_loop2 (W := (((w2.alloc (.cells #[.int .i64 x.a] 3)).alloc _).drew)) (gt := w2.heap.size + 1) (n := n - tk + pt) (ts := [x.a]) _ _ rfl rfl rfl rfl rfl rfl rfl (((hM2.kept (World.grownBy_alloc _ _ none) (by simp)).kept (World.grownBy_alloc _ _ none) (by simp)).drew) hm.out (by simp) (fun _ => rfl) ?_ (by omega) (fun y h => by simp at h; subst h; exact hwa.out) hwn.out (fun a' w' e1 e2 e3 e4 e5 => hret a' w' e1 e2 e3 (grown_trans (grown_drew (grown_alloc (grown_alloc hg2 _) _)) e4) e5) ?_
  · intro j y hy
    cases j with
    | zero => simp at hy; subst hy; exact new2 _ _ _ _ _
    | succ j => simp at hy
  intro a4 w4 K4 m4 hf4 hk4 hm4 hM4 hg4
  obtain ⟨G, rfl, hG⟩ := act_open2 hf4.sz hf4.df
  have g0 : G 0 = F 0 := hG 0 _ (hf4.k 0 (by simp))
  have g1 : G 1 = F 1 := hG 1 _ (hf4.k 1 (by simp))
  have g2 : G 2 = F 2 := hG 2 _ (hf4.k 2 (by simp))
  have g3 : G 3 = .pointer (some ⟨cB, 0, none⟩) := hG 3 _ (hf4.k 3 (by simp))
  have g4 : G 4 = .pointer (some ⟨fB, 0, none⟩) := hG 4 _ (hf4.k 4 (by simp))
  have g10 : G 10 = .map (some mB) := hG 10 _ (hf4.k 10 (by simp))
  have g11 : G 11 = .int .i64 (i : Nat) := hG 11 _ (hf4.k 11 (by simp))
  rw [g0, g1, g2, g3, g4, g10, g11]
  clear hG hf4
  go_wp2
  exact ⟨K4, m4, hk4, hm4, ⟨rfl, rfl, (by
      intro x9 hx9
      simp only [List.mem_cons, List.not_mem_nil, or_false] at hx9
      rcases hx9 with rfl | rfl | rfl | rfl | rfl | rfl
      all_goals first
        | rfl
        | exact congrArg some h3.symm
        | exact congrArg some h4.symm
        | exact congrArg some h10.symm)⟩, rfl, hM4, grown_trans (grown_drew (grown_alloc (grown_alloc hg2 _) _)) hg4⟩
end Go.Proofs.YtpjbfdpblgjmfaaGreatDoor

namespace Go.Proofs.YtpjbfdpblgjmfaaGreatDoor
open Go.RowKit Go.Maps

theorem one_cell (w : World) (v : Value) : ∀ j u, [v][j]? = some u → (w.alloc (.cells #[v] 3)).cell? ((⟨w.heap.size, 0, none⟩ : Addr).add j) = some u := by
  intro j u h
  rw [add_cell]
  cases j with
  | zero => simp at h; subst h; simp
  | succ j => simp at h
theorem app_own {w : World} {v : Value} {k : Nat} {xs : List Value} (hr : w.ownsRow 0 3 1 v (k + 1) xs) : ∃ g c, v = .slice (some ⟨g, 0, none⟩) (k + 1) c := by
  obtain ⟨a, c, rfl, h, _⟩ := row_slice hr
  rcases h with h | ⟨g, rfl⟩
  · omega
  · exact ⟨g, c, rfl⟩
theorem grown_then {w w1 w2 : World} {o : Option Nat} {g : Nat} (h : w.grownBy w1 o) (k : w1.grownBy w2 (some g)) (hg : w.heap.size ≤ g) : w.grownBy w2 o :=
  ⟨k.os.trans h.os, k.tape.trans h.tape, k.output.trans h.output, Nat.le_trans h.size k.size, fun i hi hne => (k.block i (Nat.lt_of_lt_of_le hi h.size) (by simp; omega)).trans (h.block i hi hne)⟩
set_option maxRecDepth 100000 in
set_option maxHeartbeats 8000000 in
theorem flow_on_unless {wr : World} {C : Cd.Code} {f : Cd.Fun} {vb vc vd : Value} {cB fB gv kv cv i mB m : Nat} {x : Cd.Ins} {K : Cd.Kn} {n tk pt : Int} (F G : Nat → Value) (Q0 : Exit → Act → World → Prop) (h3 : F 3 = .pointer (some ⟨cB, 0, none⟩)) (h4 : F 4 = .pointer (some ⟨fB, 0, none⟩)) (h10 : F 10 = .map (some mB))
    (hF : Fc C f vb vc vd (.slice (some ⟨gv, kv, none⟩) f.ins.length cv) cB fB wr) (hx : f.ins[i]? = some x) (hc : wr.cell? ⟨gv, kv + i * 4, none⟩ = some (.int .i64 x.op) ∧ wr.cell? ⟨gv, kv + i * 4 + 1, none⟩ = some (.int .i64 x.a) ∧ wr.cell? ⟨gv, kv + i * 4 + 2, none⟩ = some (.int .i64 x.b) ∧ wr.cell? ⟨gv, kv + i * 4 + 3, none⟩ = some (.int .i64 x.n)) (hn : f.ins.length ≤ 65535)
    (hM : KnM wr mB m K) (hT : ∀ w', Below wr.heap.size wr w' → Calls Tryz.prog 71 #[codeV2 C vb vc vd, insV2 x] w' fun e w2 => e = .returned (.tuple #[.int .i64 tk, .int .i64 pt]) ∧ Below w'.heap.size w' w2) (hn0 : 0 ≤ n ∧ n ≤ 4000) (htk : 0 ≤ tk ∧ tk ≤ 100000) (hpt : 0 ≤ pt ∧ pt ≤ 1) (hK : K i = some n) (hle : ¬ n < tk) (hsm : ¬ 4000 < n - tk + pt) (hop : x.op = 19) (hm : m + 2 < 1000000) (hwa : (Lit.int .i64 x.a).wf = true) (hret : ∀ a' w', a'.defers = [] → a'.tmps[6]? = some (.int .i64 17) → a'.tmps[7]? = some (.int .i64 (i : Nat)) → wr.grownBy w' (some mB) → Cd.flow1 i (n - tk + pt) [x.a, (i : Int) + 1] K = none → Q0 .ret a' w') :
    Code.wp Tryz.prog ((Tryz.f38.body.map (fun c => (loopsOf c).getD 1 .skip)).getD .skip) (Exit.then (fun a' w' => ∃ K' m', Cd.flow1 i (n - tk + pt) [x.a, (i : Int) + 1] K = some K' ∧ m' ≤ m + 2 ∧ FrL [0, 1, 2, 3, 4, 10] F a' ∧ a'.tmps[11]? = some (.int .i64 ((i : Int) + 1)) ∧ KnM w' mB m' K' ∧ wr.grownBy w' (some mB)) Q0) ⟨#[F 0, F 1, F 2, .pointer (some ⟨cB, 0, none⟩), .pointer (some ⟨fB, 0, none⟩), G 5, G 6, G 7, G 8, G 9, .map (some mB), .int .i64 (i : Nat), G 12, G 13, G 14, G 15, G 16, G 17, G 18, G 19, G 20, G 21, G 22, G 23, G 24, G 25, G 26, G 27, G 28, G 29, G 30, G 31, G 32, G 33, G 34, G 35, G 36, G 37, G 38, G 39, G 40, G 41, G 42, G 43, G 44, G 45, G 46, G 47, G 48, G 49, G 50, G 51, G 52, G 53, G 54, G 55, G 56, G 57, G 58, G 59, G 60, G 61, G 62, G 63, G 64, G 65, G 66, G 67, G 68, G 69, G 70, G 71, G 72, G 73, G 74, G 75, G 76, G 77, G 78, G 79, G 80, G 81, G 82, G 83, G 84, G 85, G 86, G 87, G 88, G 89, G 90, G 91, G 92, G 93, G 94, G 95, G 96, G 97, G 98, G 99, G 100, G 101, G 102, G 103, G 104, G 105, G 106, G 107, G 108, G 109, G 110, G 111, G 112, G 113, G 114, G 115, G 116, G 117, G 118, G 119, G 120, G 121, G 122, G 123, G 124, G 125, G 126, G 127, G 128, G 129, G 130, G 131, G 132, G 133, G 134, G 135, G 136, G 137, G 138, G 139, G 140, G 141, G 142, G 143, G 144, G 145, G 146, G 147, G 148, G 149, G 150, G 151, G 152, G 153, G 154, G 155, G 156, G 157, G 158, G 159, G 160, G 161, G 162, G 163, G 164, G 165, G 166, G 167, G 168, G 169, G 170, G 171, G 172, G 173, G 174, G 175, G 176, G 177, G 178, G 179, G 180, G 181], []⟩ wr := by
  have hlt : i < f.ins.length := (List.getElem?_eq_some_iff.1 hx).1
  have hi0 : (0 : Int) ≤ (i : Int) := by omega
  have hi1 : (i : Int) < (f.ins.length : Int) := by omega
  have hw : IntKind.i64.wrap ((i : Int) + 1) = (i : Int) + 1 := IntWalk.i64_in _ (by omega)
  obtain ⟨c0, c1, c2, c3, c4, c5, c6⟩ := hF.cells
  obtain ⟨c7, c8, c9, c10⟩ := hc
  have hwi : (Lit.int .i64 (i : Int)).wf = true := by simp [Lit.wf, IntKind.min, IntKind.max, IntKind.signed, IntKind.bits]; omega
  have hl : ∀ (w : World), KnM w mB m K → ∀ (ops : Array Oper) (rest : List Oper) (o : Oper) (a : Act) (Q : Exit → Act → World → Prop) (y z : Operand), o.guard = none → o.op = Op.lookup 181 y z true → a.eval y = .map (some mB) → a.eval z = .int .i64 (i : Int) → wpList Tryz.prog ops Q rest (a.put o.dst (.tuple #[.int .i64 n, .bool true])) w → wpList Tryz.prog ops Q (o :: rest) a w := fun w hMw ops rest o a Q y z e1 e2 e3 e4 h => look_kn w e1 y z e2 mB m K e3 hMw i hwi e4 (by rw [hK]; exact h)
  have hbX : Below wr.heap.size wr (wr.alloc (.cells #[.int .i64 x.op, .int .i64 x.a, .int .i64 x.b, .int .i64 x.n] 123)) := (Below.refl _ _).alloc (Nat.le_refl _) _
  have x0 : ∀ w2, Below (wr.alloc (.cells #[.int .i64 x.op, .int .i64 x.a, .int .i64 x.b, .int .i64 x.n] 123)).heap.size (wr.alloc (.cells #[.int .i64 x.op, .int .i64 x.a, .int .i64 x.b, .int .i64 x.n] 123)) w2 → w2.cell? ⟨wr.heap.size, 0, none⟩ = some (.int .i64 x.op) := fun w2 hb => (hb.cell (p := ⟨wr.heap.size, 0, none⟩) (by simp)).trans (by simp)
  have xa : ∀ w2, Below (wr.alloc (.cells #[.int .i64 x.op, .int .i64 x.a, .int .i64 x.b, .int .i64 x.n] 123)).heap.size (wr.alloc (.cells #[.int .i64 x.op, .int .i64 x.a, .int .i64 x.b, .int .i64 x.n] 123)) w2 → w2.cell? ⟨wr.heap.size, 1, none⟩ = some (.int .i64 x.a) := fun w2 hb => (hb.cell (p := ⟨wr.heap.size, 1, none⟩) (by simp)).trans (by simp)
  have hw1 : IntKind.i64.wrap (n - tk) = n - tk := IntWalk.i64_in _ (by omega)
  have hw2 : IntKind.i64.wrap (n - tk + pt) = n - tk + pt := IntWalk.i64_in _ (by omega)
  obtain ⟨d0, d1, d2, d3, d4, d5, d6⟩ := (hF.keep hbX).cells
  have hwn : (Lit.int .i64 (n - tk + pt)).wf = true := by simp [Lit.wf, IntKind.min, IntKind.max, IntKind.signed, IntKind.bits]; omega
  replace x0 := fun w2 hb => (x0 w2 hb).trans (show some (Value.int .i64 x.op) = some (.int .i64 19) by rw [hop])
  clear hop
  unfold codeV2 insV2 at hT
  replace hm := hid hm
  replace hwn := hid hwn
  replace hwa := hid hwa
  clear hK hF hx
  conv => arg 2; whnf
  go_wp2_with (first
    | (at_lookup; refine hl _ (hM.kept (World.grownBy_alloc wr (.cells #[.int .i64 x.op, .int .i64 x.a, .int .i64 x.b, .int .i64 x.n] 123) none) (by simp)) _ _ _ _ _ _ _ rfl rfl rfl rfl ?_)
    | (go_at_call 71; refine (hT _ hbX).mono ?_; clear hT; rintro e w2 ⟨rfl, hb2⟩; have y0 := x0 w2 hb2; have y1 := xa w2 hb2; dsimp only)
    | (at_builtin; refine list_append rfl _ _ 87 rfl 3 (.int .i64 0) 1 8 Tryz.underlying87 Tryz.infoInt rfl (by decide) (.slice none 0 0) 0 [] rfl (World.ownsRow_nil _ _ _ _) ⟨w2.heap.size, 0, none⟩ 1 1 [.int .i64 x.a] rfl rfl (one_cell _ _) (by simp [Value.oneCell']) (by unfold maxLen; omega) (by omega) ?_; intro v3 w3 hr3 hg3 hn3; obtain ⟨g3, c3, rfl⟩ := app_own hr3; have z0 := (grown_trans (grown_alloc (grown_refl w2 none) _) hg3).cell y0 (by simp); dsimp only [Nat.zero_add] at *)
    | (at_builtin; refine list_append rfl _ _ 87 rfl 3 (.int .i64 0) 1 8 Tryz.underlying87 Tryz.infoInt rfl (by decide) (.slice (some ⟨g3, 0, none⟩) 1 c3) 1 [.int .i64 x.a] rfl (hr3.alloc _) ⟨w3.heap.size, 0, none⟩ 1 1 [.int .i64 ((i : Int) + 1)] rfl rfl (one_cell _ _) (by simp [Value.oneCell']) (by unfold maxLen; omega) (by omega) ?_; intro v5 w5 hr5 hg5 hn5; obtain ⟨g5, c5, rfl⟩ := app_own hr5; dsimp only)
    | go_in)
  have hwi1 : (Lit.int .i64 ((i : Int) + 1)).wf = true := by simp [Lit.wf, IntKind.min, IntKind.max, IntKind.signed, IntKind.bits]; omega
  have hg2 : wr.grownBy w2 (some mB) := below_grown (below_trans hbX hb2)
  have hM2 : KnM w2 mB m K := hM.kept (below_grown (o := none) (below_trans hbX hb2)) (by simp)
  have hlm := hM2.lt
  have q3 : g3 = w2.heap.size + 1 := by simpa [Value.ownBlock] using hn3
  have q5 : g5 = g3 ∨ g5 = w3.heap.size + 1 := by simpa [Value.ownBlock] using hn5
  have s3 : w2.heap.size + 1 ≤ w3.heap.size := by have := hg3.size; simpa using this
  have g23 : w2.grownBy w3 none := grown_trans (grown_alloc (grown_refl w2 none) _) hg3
  have gw3 : wr.grownBy (w3.alloc (.cells #[.int .i64 ((i : Int) + 1)] 3)) (some mB) := grown_alloc (below_grown ⟨g23.os.trans hg2.os, g23.tape.trans hg2.tape, g23.output.trans hg2.output, Nat.le_trans hg2.size g23.size, fun k hk => (g23.block k (Nat.lt_of_lt_of_le hk hg2.size) (by simp)).trans ((below_trans hbX hb2).block k hk)⟩) _
  have gw5 : wr.grownBy w5 (some mB) := grown_then (g := g3) gw3 hg5 (by have h9 : wr.heap.size ≤ w2.heap.size := hg2.size; omega)
  have hM5 : KnM w5 mB m K := ((hM2.kept g23 (by simp)).kept (World.grownBy_alloc _ _ none) (by simp)).kept hg5 (by simp [Value.ownBlock]; omega)
  refine to_loop2 (W := w5) (gt := g5) (n := n - tk + pt) (ts := [x.a, (i : Int) + 1]) _ _ rfl rfl rfl rfl rfl rfl rfl hM5 hm.out (by simp) (fun _ => rfl) ?_ (by omega) (fun y h => by simp at h; rcases h with h | h <;> subst h; exact hwa.out; exact hwi1) hwn.out (fun a' w' e1 e2 e3 e4 e5 => hret a' w' e1 e2 e3 (grown_trans gw5 e4) e5) ?_
  · intro j y hy
    refine row_cell hr5 j _ ?_
    match j, hy with
    | 0, hy => simp at hy; subst hy; rfl
    | 1, hy => simp at hy; subst hy; rfl
    | j + 2, hy => simp at hy
  intro a4 w4 K4 m4 hf4 hk4 hm4 hM4 hg4
  obtain ⟨G, rfl, hG⟩ := act_open2 hf4.sz hf4.df
  have g0 : G 0 = F 0 := hG 0 _ (hf4.k 0 (by simp))
  have g1 : G 1 = F 1 := hG 1 _ (hf4.k 1 (by simp))
  have g2 : G 2 = F 2 := hG 2 _ (hf4.k 2 (by simp))
  have g3 : G 3 = .pointer (some ⟨cB, 0, none⟩) := hG 3 _ (hf4.k 3 (by simp))
  have g4 : G 4 = .pointer (some ⟨fB, 0, none⟩) := hG 4 _ (hf4.k 4 (by simp))
  have g10 : G 10 = .map (some mB) := hG 10 _ (hf4.k 10 (by simp))
  have g11 : G 11 = .int .i64 (i : Nat) := hG 11 _ (hf4.k 11 (by simp))
  rw [g0, g1, g2, g3, g4, g10, g11]
  clear hG hf4
  go_wp2
  exact ⟨K4, m4, hk4, hm4, ⟨rfl, rfl, (by
      intro x9 hx9
      simp only [List.mem_cons, List.not_mem_nil, or_false] at hx9
      rcases hx9 with rfl | rfl | rfl | rfl | rfl | rfl
      all_goals first
        | rfl
        | exact congrArg some h3.symm
        | exact congrArg some h4.symm
        | exact congrArg some h10.symm)⟩, rfl, hM4, grown_trans gw5 hg4⟩
end Go.Proofs.YtpjbfdpblgjmfaaGreatDoor

namespace Go.Proofs.YtpjbfdpblgjmfaaGreatDoor
open Go.RowKit Go.Maps

set_option maxRecDepth 100000 in
set_option maxHeartbeats 8000000 in
theorem flow_exit {wr : World} {C : Cd.Code} {f : Cd.Fun} {vb vc vd : Value} {cB fB cv i mB : Nat} {va : Option Addr} (F G : Nat → Value) (Q0 : Exit → Act → World → Prop) (J : Act → World → Prop) (h3 : F 3 = .pointer (some ⟨cB, 0, none⟩)) (h4 : F 4 = .pointer (some ⟨fB, 0, none⟩)) (h10 : F 10 = .map (some mB)) (hF : Fc C f vb vc vd (.slice va f.ins.length cv) cB fB wr) (hi : i = f.ins.length) (hexit : ∀ a', FrL [0, 1, 2, 3, 4, 10] F a' → Q0 (.exit 2) a' wr) :
    Code.wp Tryz.prog ((Tryz.f38.body.map (fun c => (loopsOf c).getD 1 .skip)).getD .skip) (Exit.then J Q0) ⟨#[F 0, F 1, F 2, .pointer (some ⟨cB, 0, none⟩), .pointer (some ⟨fB, 0, none⟩), G 5, G 6, G 7, G 8, G 9, .map (some mB), .int .i64 (i : Nat), G 12, G 13, G 14, G 15, G 16, G 17, G 18, G 19, G 20, G 21, G 22, G 23, G 24, G 25, G 26, G 27, G 28, G 29, G 30, G 31, G 32, G 33, G 34, G 35, G 36, G 37, G 38, G 39, G 40, G 41, G 42, G 43, G 44, G 45, G 46, G 47, G 48, G 49, G 50, G 51, G 52, G 53, G 54, G 55, G 56, G 57, G 58, G 59, G 60, G 61, G 62, G 63, G 64, G 65, G 66, G 67, G 68, G 69, G 70, G 71, G 72, G 73, G 74, G 75, G 76, G 77, G 78, G 79, G 80, G 81, G 82, G 83, G 84, G 85, G 86, G 87, G 88, G 89, G 90, G 91, G 92, G 93, G 94, G 95, G 96, G 97, G 98, G 99, G 100, G 101, G 102, G 103, G 104, G 105, G 106, G 107, G 108, G 109, G 110, G 111, G 112, G 113, G 114, G 115, G 116, G 117, G 118, G 119, G 120, G 121, G 122, G 123, G 124, G 125, G 126, G 127, G 128, G 129, G 130, G 131, G 132, G 133, G 134, G 135, G 136, G 137, G 138, G 139, G 140, G 141, G 142, G 143, G 144, G 145, G 146, G 147, G 148, G 149, G 150, G 151, G 152, G 153, G 154, G 155, G 156, G 157, G 158, G 159, G 160, G 161, G 162, G 163, G 164, G 165, G 166, G 167, G 168, G 169, G 170, G 171, G 172, G 173, G 174, G 175, G 176, G 177, G 178, G 179, G 180, G 181], []⟩ wr := by
  have hj1 : ¬ ((i : Int) < (f.ins.length : Int)) := by omega
  obtain ⟨c0, c1, c2, c3, c4, c5, c6⟩ := hF.cells
  clear hi hF
  conv => arg 2; whnf
  go_wp2
  exact ⟨rfl, rfl, (by
      intro x9 hx9
      simp only [List.mem_cons, List.not_mem_nil, or_false] at hx9
      rcases hx9 with rfl | rfl | rfl | rfl | rfl | rfl
      all_goals first
        | rfl
        | exact congrArg some h3.symm
        | exact congrArg some h4.symm
        | exact congrArg some h10.symm)⟩
theorem flow1_vals {i : Nat} {n : Int} : ∀ (ts : List Int) (K K' : Cd.Kn), Cd.flow1 i n ts K = some K' → ∀ a v, K' a = some v → v = n ∨ K a = some v := by
  intro ts
  induction ts with
  | nil => intro K K' h a v hv; simp [Cd.flow1] at h; subst h; exact .inr hv
  | cons t ts ih =>
    intro K K' h a v hv
    have key : Cd.flow1 i n ts (K.put t n) = some K' := by
      unfold Cd.flow1 at h
      split at h <;> split at h <;> first | exact h | cases h
    rcases ih _ _ key a v hv with e | e
    · exact .inl e
    · unfold Cd.Kn.put at e
      split at e
      · exact .inl (Option.some.inj e).symm
      · exact .inr e
end Go.Proofs.YtpjbfdpblgjmfaaGreatDoor

namespace Go.Proofs.YtpjbfdpblgjmfaaGreatDoor
open Go.RowKit Go.Maps

theorem below_grow {w0 w w' : World} {mB : Nat} (h : Below w0.heap.size w0 w) (hg : w.grownBy w' (some mB)) (hm : w0.heap.size ≤ mB) : Below w0.heap.size w0 w' :=
  ⟨hg.os.trans h.os, hg.tape.trans h.tape, hg.output.trans h.output, Nat.le_trans h.size hg.size, fun k hk => (hg.block k (Nat.lt_of_lt_of_le hk h.size) (by simp; omega)).trans (h.block k hk)⟩
theorem flow_loop {W0 W : World} {C : Cd.Code} {f : Cd.Fun} {vb vc vd : Value} {cB fB gv kv cv mB m : Nat} {va : Option Addr} {K : Cd.Kn} (F : Nat → Value) (Q0 : Exit → Act → World → Prop) (h3 : F 3 = .pointer (some ⟨cB, 0, none⟩)) (h4 : F 4 = .pointer (some ⟨fB, 0, none⟩)) (h10 : F 10 = .map (some mB))
    (hF : Fc C f vb vc vd (.slice va f.ins.length cv) cB fB W0) (hva : f.ins ≠ [] → va = some ⟨gv, kv, none⟩) (hc : ∀ i x, f.ins[i]? = some x → W0.cell? ⟨gv, kv + i * 4, none⟩ = some (.int .i64 x.op) ∧ W0.cell? ⟨gv, kv + i * 4 + 1, none⟩ = some (.int .i64 x.a) ∧ W0.cell? ⟨gv, kv + i * 4 + 2, none⟩ = some (.int .i64 x.b) ∧ W0.cell? ⟨gv, kv + i * 4 + 3, none⟩ = some (.int .i64 x.n)) (hn : f.ins.length ≤ 65535) (hW : Below W0.heap.size W0 W) (hmB : W0.heap.size ≤ mB) (hM : KnM W mB m K) (hm : m ≤ 2) (hKv : ∀ a v, K a = some v → 0 ≤ v ∧ v ≤ 4000)
    (hT : ∀ x ∈ f.ins, ∀ w', Below W0.heap.size W0 w' → Calls Tryz.prog 71 #[codeV2 C vb vc vd, insV2 x] w' fun e w2 => e = .returned (.tuple #[.int .i64 (Cd.takes C x).1, .int .i64 (Cd.takes C x).2]) ∧ Below w'.heap.size w' w2)
    (htk : ∀ x ∈ f.ins, (0 ≤ (Cd.takes C x).1 ∧ (Cd.takes C x).1 ≤ 100000) ∧ 0 ≤ (Cd.takes C x).2 ∧ (Cd.takes C x).2 ≤ 1) (hwa : ∀ x ∈ f.ins, (Lit.int .i64 x.a).wf = true)
    (a0 : Act) (hfr : FrL [0, 1, 2, 3, 4, 10] F a0) (h11 : a0.tmps[11]? = some (.int .i64 0))
    (hret : ∀ a' w' (i : Nat) K', a'.defers = [] → a'.tmps[6]? = some (.int .i64 17) → a'.tmps[7]? = some (.int .i64 (i : Nat)) → Below W0.heap.size W0 w' → Cd.flowL C f.ins 0 K = (some i, K') → Q0 .ret a' w')
    (hexit : ∀ a' w' K' m', FrL [0, 1, 2, 3, 4, 10] F a' → Cd.flowL C f.ins 0 K = (none, K') → KnM w' mB m' K' → Below W0.heap.size W0 w' → Q0 (.exit 2) a' w') : Code.wp Tryz.prog (Code.loop ((Tryz.f38.body.map (fun c => (loopsOf c).getD 1 .skip)).getD .skip)) Q0 a0 W := by
  refine wp_loop (fun a w => ∃ (i : Nat) (K' : Cd.Kn) (m' : Nat), i ≤ f.ins.length ∧ FrL [0, 1, 2, 3, 4, 10] F a ∧ a.tmps[11]? = some (.int .i64 (i : Nat)) ∧ KnM w mB m' K' ∧ m' ≤ 2 + 2 * i ∧ Below W0.heap.size W0 w ∧ (∀ b v, K' b = some v → 0 ≤ v ∧ v ≤ 4000) ∧ Cd.flowL C f.ins 0 K = Cd.flowL C (f.ins.drop i) i K') (fun a _ => f.ins.length - (intOf (a.tmps.getD 11 undef)).toNat) ⟨0, K, m, Nat.zero_le _, hfr, h11, hM, by omega, hW, hKv, rfl⟩ ?_
  rintro a w ⟨i, K', m', hi, hf, hi11, hMi, hmi, hb, hv, hrel⟩
  have hmu : (intOf (a.tmps.getD 11 undef)).toNat = i := by simp [Array.getD_eq_getD_getElem?, hi11, intOf]
  rw [hmu]
  obtain ⟨G, rfl, hG⟩ := act_open2 hf.sz hf.df
  have f0 : G 0 = F 0 := hG 0 _ (hf.k 0 (by simp))
  have f1 : G 1 = F 1 := hG 1 _ (hf.k 1 (by simp))
  have f2 : G 2 = F 2 := hG 2 _ (hf.k 2 (by simp))
  have f3 : G 3 = F 3 := hG 3 _ (hf.k 3 (by simp))
  have f4 : G 4 = F 4 := hG 4 _ (hf.k 4 (by simp))
  have f10 : G 10 = F 10 := hG 10 _ (hf.k 10 (by simp))
  have f11 : G 11 = .int .i64 (i : Nat) := hG 11 _ hi11
  rw [h3] at f3
  rw [h4] at f4
  rw [h10] at f10
  rw [f0, f1, f2, f3, f4, f10, f11]
  clear hG hf hi11
  by_cases e : i = f.ins.length
  · refine flow_exit F G Q0 _ h3 h4 h10 (hF.keep hb) e (fun a' hk => hexit a' w K' m' hk ?_ hMi hb)
    rw [hrel, e, List.drop_length]
    rfl
  · have hlt : i < f.ins.length := by omega
    obtain rfl : va = some ⟨gv, kv, none⟩ := hva (fun e0 => by rw [e0] at hlt; simp at hlt)
    obtain ⟨x, hx⟩ : ∃ x, f.ins[i]? = some x := ⟨f.ins[i], by simp⟩
    have hxm : x ∈ f.ins := List.mem_of_getElem? hx
    have hdrop : f.ins.drop i = x :: f.ins.drop (i + 1) := by
      rw [List.drop_eq_getElem_cons hlt]
      congr 1
      exact (List.getElem?_eq_some_iff.1 hx).2
    rw [hdrop] at hrel
    have hcx : w.cell? ⟨gv, kv + i * 4, none⟩ = some (.int .i64 x.op) ∧ w.cell? ⟨gv, kv + i * 4 + 1, none⟩ = some (.int .i64 x.a) ∧ w.cell? ⟨gv, kv + i * 4 + 2, none⟩ = some (.int .i64 x.b) ∧ w.cell? ⟨gv, kv + i * 4 + 3, none⟩ = some (.int .i64 x.n) := by
      obtain ⟨q0, q1, q2, q3⟩ := hc i x hx
      exact ⟨kc hb q0, kc hb q1, kc hb q2, kc hb q3⟩
    have hTx : ∀ w', Below w.heap.size w w' → Calls Tryz.prog 71 #[codeV2 C vb vc vd, insV2 x] w' fun e w2 => e = .returned (.tuple #[.int .i64 (Cd.takes C x).1, .int .i64 (Cd.takes C x).2]) ∧ Below w'.heap.size w' w2 := fun w' h => hT x hxm w' (below_trans hb h)
    obtain ⟨ht1, ht2⟩ := htk x hxm
    cases hK : K' i with
    | none =>
      refine wp_mono (flow_unknown (n := 0) (tk := 0) (pt := 0) F G Q0 h3 h4 h10 (hF.keep hb) hx hcx hn hMi hK (fun a' w' d1 d2 d3 d4 => hret a' w' i K' d1 d2 d3 (below_trans hb d4) (by rw [hrel, Cd.flowL, hK]))) ?_
      intro e a' w' h
      cases e <;> first | exact h.elim | exact h
    | some n =>
      have hnv := hv _ _ hK
      have bad : ((Cd.takes C x).1 > n ∨ ((x.op = 17 ∨ x.op = 16) ∧ (Cd.takes C x).1 ≠ n)) → ∀ a' w', a'.defers = [] → a'.tmps[6]? = some (.int .i64 17) → a'.tmps[7]? = some (.int .i64 (i : Nat)) → Below w.heap.size w w' → Q0 .ret a' w' := fun hq a' w' d1 d2 d3 d4 => hret a' w' i K' d1 d2 d3 (below_trans hb d4) (by rw [hrel, Cd.flowL, hK]; simp only; rw [if_pos hq])
      have off : ∀ {J : Act → World → Prop} {P : Act → World → Prop}, (∀ a' w', P a' w' → J a' w') → ∀ {c : Code} {a : Act} {w : World}, Code.wp Tryz.prog c (Exit.then P Q0) a w → Code.wp Tryz.prog c (Exit.then J Q0) a w := by
        intro J P hPJ c a w h
        refine wp_mono h ?_
        intro e a' w' h
        cases e <;> first | exact hPJ a' w' h | exact h
      by_cases b1 : n < (Cd.takes C x).1
      · exact off (fun _ _ h => h.elim) (flow_more F G Q0 h3 h4 h10 (hF.keep hb) hx hcx hn hMi hTx hnv ht1 ht2 hK b1 (bad (.inl b1)))
      by_cases b2 : x.op = 17 ∧ ¬ (Cd.takes C x).1 = n
      · exact off (fun _ _ h => h.elim) (flow_ret17 F G Q0 h3 h4 h10 (hF.keep hb) hx hcx hn hMi hTx hnv ht1 ht2 hK b1 b2.1 b2.2 (bad (.inr ⟨.inl b2.1, b2.2⟩)))
      by_cases b3 : x.op = 16 ∧ ¬ (Cd.takes C x).1 = n
      · exact off (fun _ _ h => h.elim) (flow_ret16 F G Q0 h3 h4 h10 (hF.keep hb) hx hcx hn hMi hTx hnv ht1 ht2 hK b1 b3.1 b3.2 (bad (.inr ⟨.inr b3.1, b3.2⟩)))
      have hno : ¬ ((Cd.takes C x).1 > n ∨ ((x.op = 17 ∨ x.op = 16) ∧ (Cd.takes C x).1 ≠ n)) := by
        rintro (h | ⟨h | h, h2⟩)
        · exact b1 h
        · exact b2 ⟨h, h2⟩
        · exact b3 ⟨h, h2⟩
      by_cases b4 : 4000 < n - (Cd.takes C x).1 + (Cd.takes C x).2
      · have o17 : ¬ x.op = 17 := fun h => b2 ⟨h, by omega⟩
        have o16 : ¬ x.op = 16 := fun h => b3 ⟨h, by omega⟩
        exact off (fun _ _ h => h.elim) (flow_big F G Q0 h3 h4 h10 (hF.keep hb) hx hcx hn hMi hTx hnv ht1 ht2 hK b1 o17 o16 b4 (fun a' w' d1 d2 d3 d4 => hret a' w' i K' d1 d2 d3 (below_trans hb d4) (by rw [hrel, Cd.flowL, hK]; simp only; rw [if_neg hno, if_pos b4])))
      have hstep : Cd.flowL C f.ins 0 K = match Cd.flow1 i (n - (Cd.takes C x).1 + (Cd.takes C x).2) (Cd.goes x i) K' with
          | none => (some i, K')
          | some K2 => Cd.flowL C (f.ins.drop (i + 1)) (i + 1) K2 := by
        rw [hrel, Cd.flowL, hK]
        simp only
        rw [if_neg hno, if_neg b4]
        cases Cd.flow1 i (n - (Cd.takes C x).1 + (Cd.takes C x).2) (Cd.goes x i) K' <;> rfl
      have hr2 : ∀ ts, Cd.goes x i = ts → ∀ a' w', a'.defers = [] → a'.tmps[6]? = some (.int .i64 17) → a'.tmps[7]? = some (.int .i64 (i : Nat)) → w.grownBy w' (some mB) → Cd.flow1 i (n - (Cd.takes C x).1 + (Cd.takes C x).2) ts K' = none → Q0 .ret a' w' := by
        intro ts hts a' w' d1 d2 d3 d4 d5
        subst hts
        exact hret a' w' i K' d1 d2 d3 (below_grow hb d4 hmB) (by rw [hstep, d5])
      have fin : ∀ ts, Cd.goes x i = ts → ∀ a' w', (∃ K2 m2, Cd.flow1 i (n - (Cd.takes C x).1 + (Cd.takes C x).2) ts K' = some K2 ∧ m2 ≤ m' + 2 ∧ FrL [0, 1, 2, 3, 4, 10] F a' ∧ a'.tmps[11]? = some (.int .i64 ((i : Int) + 1)) ∧ KnM w' mB m2 K2 ∧ w.grownBy w' (some mB)) → ((fun a w => ∃ (i : Nat) (K' : Cd.Kn) (m' : Nat), i ≤ f.ins.length ∧ FrL [0, 1, 2, 3, 4, 10] F a ∧ a.tmps[11]? = some (.int .i64 (i : Nat)) ∧ KnM w mB m' K' ∧ m' ≤ 2 + 2 * i ∧ Below W0.heap.size W0 w ∧ (∀ b v, K' b = some v → 0 ≤ v ∧ v ≤ 4000) ∧ Cd.flowL C f.ins 0 K = Cd.flowL C (f.ins.drop i) i K') a' w' ∧ f.ins.length - (intOf (a'.tmps.getD 11 undef)).toNat < f.ins.length - i) := by
        rintro ts hts a' w' ⟨K2, m2, p1, p2, p3, p4, p5, p6⟩
        subst hts
        refine ⟨⟨i + 1, K2, m2, by omega, p3, by simpa using p4, p5, by omega, below_grow hb p6 hmB, ?_, by rw [hstep, p1]⟩, ?_⟩
        · intro b v hbv
          rcases flow1_vals _ _ _ p1 b v hbv with e2 | e2
          · omega
          · exact hv b v e2
        · simp only [Array.getD_eq_getD_getElem?, p4, Option.getD_some, intOf]
          omega
      have hm2 : m' + 2 < 1000000 := by omega
      have hwx := hwa x hxm
      by_cases o17 : x.op = 17
      · have g : Cd.goes x i = [] := by simp [Cd.goes, o17]
        exact off (fin _ g) (flow_on_r17 F G Q0 h3 h4 h10 (hF.keep hb) hx hcx hn hMi hTx hnv ht1 ht2 hK b1 b4 o17 (Decidable.byContradiction fun h => b2 ⟨o17, h⟩) hm2 hwx (hr2 _ g))
      by_cases o16 : x.op = 16
      · have g : Cd.goes x i = [] := by simp [Cd.goes, o16]
        exact off (fin _ g) (flow_on_r16 F G Q0 h3 h4 h10 (hF.keep hb) hx hcx hn hMi hTx hnv ht1 ht2 hK b1 b4 o16 (Decidable.byContradiction fun h => b3 ⟨o16, h⟩) hm2 hwx (hr2 _ g))
      by_cases o18 : x.op = 18
      · have g : Cd.goes x i = [x.a] := by simp [Cd.goes, o18]
        exact off (fin _ g) (flow_on_jump F G Q0 h3 h4 h10 (hF.keep hb) hx hcx hn hMi hTx hnv ht1 ht2 hK b1 b4 o18 hm2 hwx (hr2 _ g))
      by_cases o19 : x.op = 19
      · have g : Cd.goes x i = [x.a, (i : Int) + 1] := by simp [Cd.goes, o19]
        exact off (fin _ g) (flow_on_unless F G Q0 h3 h4 h10 (hF.keep hb) hx hcx hn hMi hTx hnv ht1 ht2 hK b1 b4 o19 hm2 hwx (hr2 _ g))
      · have g : Cd.goes x i = [(i : Int) + 1] := by simp [Cd.goes, o16, o17, o18, o19]
        exact off (fin _ g) (flow_on_one F G Q0 h3 h4 h10 (hF.keep hb) hx hcx hn hMi hTx hnv ht1 ht2 hK b1 b4 o17 o16 o18 o19 hm2 hwx (hr2 _ g))
end Go.Proofs.YtpjbfdpblgjmfaaGreatDoor
