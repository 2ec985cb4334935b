/-
  The document's fun: a round of the loop over the instructions, at fault.
  The document's fun: a round of the loop over the instructions that goes on.
-/
import Derived.Test.YtpjbfdpblgjmfaaGreatDoorMEc
set_option linter.unusedVariables false
set_option linter.unusedSimpArgs false
namespace Go.Proofs.YtpjbfdpblgjmfaaGreatDoor
open Go.RowKit Go.Maps

set_option maxRecDepth 100000 in
set_option maxHeartbeats 8000000 in
theorem flow_unknown {wr : World} {C : Cd.Code} {f : Cd.Fun} {vb vc vd : Value} {cB fB gv kv cv i mB m : Nat} {x : Cd.Ins} {K : Cd.Kn} {n tk pt : Int} (F G : Nat → Value) (Q0 : Exit → Act → World → Prop) (h3 : F 3 = .pointer (some ⟨cB, 0, none⟩)) (h4 : F 4 = .pointer (some ⟨fB, 0, none⟩)) (h10 : F 10 = .map (some mB))
    (hF : Fc C f vb vc vd (.slice (some ⟨gv, kv, none⟩) f.ins.length cv) cB fB wr) (hx : f.ins[i]? = some x) (hc : wr.cell? ⟨gv, kv + i * 4, none⟩ = some (.int .i64 x.op) ∧ wr.cell? ⟨gv, kv + i * 4 + 1, none⟩ = some (.int .i64 x.a) ∧ wr.cell? ⟨gv, kv + i * 4 + 2, none⟩ = some (.int .i64 x.b) ∧ wr.cell? ⟨gv, kv + i * 4 + 3, none⟩ = some (.int .i64 x.n)) (hn : f.ins.length ≤ 65535)
    (hM : KnM wr mB m K) (hK : K i = none) (hret : ∀ a' w', a'.defers = [] → a'.tmps[6]? = some (.int .i64 17) → a'.tmps[7]? = some (.int .i64 (i : Nat)) → Below wr.heap.size wr w' → Q0 .ret a' w') :
    Code.wp Tryz.prog ((Tryz.f38.body.map (fun c => (loopsOf c).getD 1 .skip)).getD .skip) (Exit.then (fun _ _ => False) Q0) ⟨#[F 0, F 1, F 2, .pointer (some ⟨cB, 0, none⟩), .pointer (some ⟨fB, 0, none⟩), G 5, G 6, G 7, G 8, G 9, .map (some mB), .int .i64 (i : Nat), G 12, G 13, G 14, G 15, G 16, G 17, G 18, G 19, G 20, G 21, G 22, G 23, G 24, G 25, G 26, G 27, G 28, G 29, G 30, G 31, G 32, G 33, G 34, G 35, G 36, G 37, G 38, G 39, G 40, G 41, G 42, G 43, G 44, G 45, G 46, G 47, G 48, G 49, G 50, G 51, G 52, G 53, G 54, G 55, G 56, G 57, G 58, G 59, G 60, G 61, G 62, G 63, G 64, G 65, G 66, G 67, G 68, G 69, G 70, G 71, G 72, G 73, G 74, G 75, G 76, G 77, G 78, G 79, G 80, G 81, G 82, G 83, G 84, G 85, G 86, G 87, G 88, G 89, G 90, G 91, G 92, G 93, G 94, G 95, G 96, G 97, G 98, G 99, G 100, G 101, G 102, G 103, G 104, G 105, G 106, G 107, G 108, G 109, G 110, G 111, G 112, G 113, G 114, G 115, G 116, G 117, G 118, G 119, G 120, G 121, G 122, G 123, G 124, G 125, G 126, G 127, G 128, G 129, G 130, G 131, G 132, G 133, G 134, G 135, G 136, G 137, G 138, G 139, G 140, G 141, G 142, G 143, G 144, G 145, G 146, G 147, G 148, G 149, G 150, G 151, G 152, G 153, G 154, G 155, G 156, G 157, G 158, G 159, G 160, G 161, G 162, G 163, G 164, G 165, G 166, G 167, G 168, G 169, G 170, G 171, G 172, G 173, G 174, G 175, G 176, G 177, G 178, G 179, G 180, G 181], []⟩ wr := by
  have hlt : i < f.ins.length := (List.getElem?_eq_some_iff.1 hx).1
  have hi0 : (0 : Int) ≤ (i : Int) := by omega
  have hi1 : (i : Int) < (f.ins.length : Int) := by omega
  have hw : IntKind.i64.wrap ((i : Int) + 1) = (i : Int) + 1 := IntWalk.i64_in _ (by omega)
  obtain ⟨c0, c1, c2, c3, c4, c5, c6⟩ := hF.cells
  obtain ⟨c7, c8, c9, c10⟩ := hc
  have hwi : (Lit.int .i64 (i : Int)).wf = true := by simp [Lit.wf, IntKind.min, IntKind.max, IntKind.signed, IntKind.bits]; omega
  have hl : ∀ (w : World), KnM w mB m K → ∀ (ops : Array Oper) (rest : List Oper) (o : Oper) (a : Act) (Q : Exit → Act → World → Prop) (y z : Operand), o.guard = none → o.op = Op.lookup 181 y z true → a.eval y = .map (some mB) → a.eval z = .int .i64 (i : Int) → wpList Tryz.prog ops Q rest (a.put o.dst (.tuple #[.int .i64 0, .bool false])) w → wpList Tryz.prog ops Q (o :: rest) a w := fun w hMw ops rest o a Q y z e1 e2 e3 e4 h => look_kn w e1 y z e2 mB m K e3 hMw i hwi e4 (by rw [hK]; exact h)
  have hbX : Below wr.heap.size wr (wr.alloc (.cells #[.int .i64 x.op, .int .i64 x.a, .int .i64 x.b, .int .i64 x.n] 123)) := (Below.refl _ _).alloc (Nat.le_refl _) _
  clear hK hF hx
  conv => arg 2; whnf
  go_wp2_with (first
    | (at_lookup; refine hl _ (hM.kept (World.grownBy_alloc wr (.cells #[.int .i64 x.op, .int .i64 x.a, .int .i64 x.b, .int .i64 x.n] 123) none) (by simp)) _ _ _ _ _ _ _ rfl rfl rfl rfl ?_)
    | go_in)
  exact hret _ _ rfl rfl rfl hbX
set_option maxRecDepth 100000 in
set_option maxHeartbeats 8000000 in
theorem flow_more {wr : World} {C : Cd.Code} {f : Cd.Fun} {vb vc vd : Value} {cB fB gv kv cv i mB m : Nat} {x : Cd.Ins} {K : Cd.Kn} {n tk pt : Int} (F G : Nat → Value) (Q0 : Exit → Act → World → Prop) (h3 : F 3 = .pointer (some ⟨cB, 0, none⟩)) (h4 : F 4 = .pointer (some ⟨fB, 0, none⟩)) (h10 : F 10 = .map (some mB))
    (hF : Fc C f vb vc vd (.slice (some ⟨gv, kv, none⟩) f.ins.length cv) cB fB wr) (hx : f.ins[i]? = some x) (hc : wr.cell? ⟨gv, kv + i * 4, none⟩ = some (.int .i64 x.op) ∧ wr.cell? ⟨gv, kv + i * 4 + 1, none⟩ = some (.int .i64 x.a) ∧ wr.cell? ⟨gv, kv + i * 4 + 2, none⟩ = some (.int .i64 x.b) ∧ wr.cell? ⟨gv, kv + i * 4 + 3, none⟩ = some (.int .i64 x.n)) (hn : f.ins.length ≤ 65535)
    (hM : KnM wr mB m K) (hT : ∀ w', Below wr.heap.size wr w' → Calls Tryz.prog 71 #[codeV2 C vb vc vd, insV2 x] w' fun e w2 => e = .returned (.tuple #[.int .i64 tk, .int .i64 pt]) ∧ Below w'.heap.size w' w2) (hn0 : 0 ≤ n ∧ n ≤ 4000) (htk : 0 ≤ tk ∧ tk ≤ 100000) (hpt : 0 ≤ pt ∧ pt ≤ 1) (hK : K i = some n) (hbad : n < tk) (hret : ∀ a' w', a'.defers = [] → a'.tmps[6]? = some (.int .i64 17) → a'.tmps[7]? = some (.int .i64 (i : Nat)) → Below wr.heap.size wr w' → Q0 .ret a' w') :
    Code.wp Tryz.prog ((Tryz.f38.body.map (fun c => (loopsOf c).getD 1 .skip)).getD .skip) (Exit.then (fun _ _ => False) Q0) ⟨#[F 0, F 1, F 2, .pointer (some ⟨cB, 0, none⟩), .pointer (some ⟨fB, 0, none⟩), G 5, G 6, G 7, G 8, G 9, .map (some mB), .int .i64 (i : Nat), G 12, G 13, G 14, G 15, G 16, G 17, G 18, G 19, G 20, G 21, G 22, G 23, G 24, G 25, G 26, G 27, G 28, G 29, G 30, G 31, G 32, G 33, G 34, G 35, G 36, G 37, G 38, G 39, G 40, G 41, G 42, G 43, G 44, G 45, G 46, G 47, G 48, G 49, G 50, G 51, G 52, G 53, G 54, G 55, G 56, G 57, G 58, G 59, G 60, G 61, G 62, G 63, G 64, G 65, G 66, G 67, G 68, G 69, G 70, G 71, G 72, G 73, G 74, G 75, G 76, G 77, G 78, G 79, G 80, G 81, G 82, G 83, G 84, G 85, G 86, G 87, G 88, G 89, G 90, G 91, G 92, G 93, G 94, G 95, G 96, G 97, G 98, G 99, G 100, G 101, G 102, G 103, G 104, G 105, G 106, G 107, G 108, G 109, G 110, G 111, G 112, G 113, G 114, G 115, G 116, G 117, G 118, G 119, G 120, G 121, G 122, G 123, G 124, G 125, G 126, G 127, G 128, G 129, G 130, G 131, G 132, G 133, G 134, G 135, G 136, G 137, G 138, G 139, G 140, G 141, G 142, G 143, G 144, G 145, G 146, G 147, G 148, G 149, G 150, G 151, G 152, G 153, G 154, G 155, G 156, G 157, G 158, G 159, G 160, G 161, G 162, G 163, G 164, G 165, G 166, G 167, G 168, G 169, G 170, G 171, G 172, G 173, G 174, G 175, G 176, G 177, G 178, G 179, G 180, G 181], []⟩ wr := by
  have hlt : i < f.ins.length := (List.getElem?_eq_some_iff.1 hx).1
  have hi0 : (0 : Int) ≤ (i : Int) := by omega
  have hi1 : (i : Int) < (f.ins.length : Int) := by omega
  have hw : IntKind.i64.wrap ((i : Int) + 1) = (i : Int) + 1 := IntWalk.i64_in _ (by omega)
  obtain ⟨c0, c1, c2, c3, c4, c5, c6⟩ := hF.cells
  obtain ⟨c7, c8, c9, c10⟩ := hc
  have hwi : (Lit.int .i64 (i : Int)).wf = true := by simp [Lit.wf, IntKind.min, IntKind.max, IntKind.signed, IntKind.bits]; omega
  have hl : ∀ (w : World), KnM w mB m K → ∀ (ops : Array Oper) (rest : List Oper) (o : Oper) (a : Act) (Q : Exit → Act → World → Prop) (y z : Operand), o.guard = none → o.op = Op.lookup 181 y z true → a.eval y = .map (some mB) → a.eval z = .int .i64 (i : Int) → wpList Tryz.prog ops Q rest (a.put o.dst (.tuple #[.int .i64 n, .bool true])) w → wpList Tryz.prog ops Q (o :: rest) a w := fun w hMw ops rest o a Q y z e1 e2 e3 e4 h => look_kn w e1 y z e2 mB m K e3 hMw i hwi e4 (by rw [hK]; exact h)
  have hbX : Below wr.heap.size wr (wr.alloc (.cells #[.int .i64 x.op, .int .i64 x.a, .int .i64 x.b, .int .i64 x.n] 123)) := (Below.refl _ _).alloc (Nat.le_refl _) _
  have x0 : ∀ w2, Below (wr.alloc (.cells #[.int .i64 x.op, .int .i64 x.a, .int .i64 x.b, .int .i64 x.n] 123)).heap.size (wr.alloc (.cells #[.int .i64 x.op, .int .i64 x.a, .int .i64 x.b, .int .i64 x.n] 123)) w2 → w2.cell? ⟨wr.heap.size, 0, none⟩ = some (.int .i64 x.op) := fun w2 hb => (hb.cell (p := ⟨wr.heap.size, 0, none⟩) (by simp)).trans (by simp)
  have hgt : n < tk := hbad
  obtain ⟨d0, d1, d2, d3, d4, d5, d6⟩ := (hF.keep hbX).cells
  unfold codeV2 insV2 at hT
  clear hK hF hx
  conv => arg 2; whnf
  go_wp2_with (first
    | (at_lookup; refine hl _ (hM.kept (World.grownBy_alloc wr (.cells #[.int .i64 x.op, .int .i64 x.a, .int .i64 x.b, .int .i64 x.n] 123) none) (by simp)) _ _ _ _ _ _ _ rfl rfl rfl rfl ?_)
    | (go_at_call 71; refine (hT _ hbX).mono ?_; clear hT; rintro e w2 ⟨rfl, hb2⟩; have y0 := x0 w2 hb2; dsimp only)
    | go_in)
  exact hret _ _ rfl rfl rfl (below_trans hbX hb2)
set_option maxRecDepth 100000 in
set_option maxHeartbeats 8000000 in
theorem flow_ret17 {wr : World} {C : Cd.Code} {f : Cd.Fun} {vb vc vd : Value} {cB fB gv kv cv i mB m : Nat} {x : Cd.Ins} {K : Cd.Kn} {n tk pt : Int} (F G : Nat → Value) (Q0 : Exit → Act → World → Prop) (h3 : F 3 = .pointer (some ⟨cB, 0, none⟩)) (h4 : F 4 = .pointer (some ⟨fB, 0, none⟩)) (h10 : F 10 = .map (some mB))
    (hF : Fc C f vb vc vd (.slice (some ⟨gv, kv, none⟩) f.ins.length cv) cB fB wr) (hx : f.ins[i]? = some x) (hc : wr.cell? ⟨gv, kv + i * 4, none⟩ = some (.int .i64 x.op) ∧ wr.cell? ⟨gv, kv + i * 4 + 1, none⟩ = some (.int .i64 x.a) ∧ wr.cell? ⟨gv, kv + i * 4 + 2, none⟩ = some (.int .i64 x.b) ∧ wr.cell? ⟨gv, kv + i * 4 + 3, none⟩ = some (.int .i64 x.n)) (hn : f.ins.length ≤ 65535)
    (hM : KnM wr mB m K) (hT : ∀ w', Below wr.heap.size wr w' → Calls Tryz.prog 71 #[codeV2 C vb vc vd, insV2 x] w' fun e w2 => e = .returned (.tuple #[.int .i64 tk, .int .i64 pt]) ∧ Below w'.heap.size w' w2) (hn0 : 0 ≤ n ∧ n ≤ 4000) (htk : 0 ≤ tk ∧ tk ≤ 100000) (hpt : 0 ≤ pt ∧ pt ≤ 1) (hK : K i = some n) (hle : ¬ n < tk) (hop : x.op = 17) (hbad : ¬ tk = n) (hret : ∀ a' w', a'.defers = [] → a'.tmps[6]? = some (.int .i64 17) → a'.tmps[7]? = some (.int .i64 (i : Nat)) → Below wr.heap.size wr w' → Q0 .ret a' w') :
    Code.wp Tryz.prog ((Tryz.f38.body.map (fun c => (loopsOf c).getD 1 .skip)).getD .skip) (Exit.then (fun _ _ => False) Q0) ⟨#[F 0, F 1, F 2, .pointer (some ⟨cB, 0, none⟩), .pointer (some ⟨fB, 0, none⟩), G 5, G 6, G 7, G 8, G 9, .map (some mB), .int .i64 (i : Nat), G 12, G 13, G 14, G 15, G 16, G 17, G 18, G 19, G 20, G 21, G 22, G 23, G 24, G 25, G 26, G 27, G 28, G 29, G 30, G 31, G 32, G 33, G 34, G 35, G 36, G 37, G 38, G 39, G 40, G 41, G 42, G 43, G 44, G 45, G 46, G 47, G 48, G 49, G 50, G 51, G 52, G 53, G 54, G 55, G 56, G 57, G 58, G 59, G 60, G 61, G 62, G 63, G 64, G 65, G 66, G 67, G 68, G 69, G 70, G 71, G 72, G 73, G 74, G 75, G 76, G 77, G 78, G 79, G 80, G 81, G 82, G 83, G 84, G 85, G 86, G 87, G 88, G 89, G 90, G 91, G 92, G 93, G 94, G 95, G 96, G 97, G 98, G 99, G 100, G 101, G 102, G 103, G 104, G 105, G 106, G 107, G 108, G 109, G 110, G 111, G 112, G 113, G 114, G 115, G 116, G 117, G 118, G 119, G 120, G 121, G 122, G 123, G 124, G 125, G 126, G 127, G 128, G 129, G 130, G 131, G 132, G 133, G 134, G 135, G 136, G 137, G 138, G 139, G 140, G 141, G 142, G 143, G 144, G 145, G 146, G 147, G 148, G 149, G 150, G 151, G 152, G 153, G 154, G 155, G 156, G 157, G 158, G 159, G 160, G 161, G 162, G 163, G 164, G 165, G 166, G 167, G 168, G 169, G 170, G 171, G 172, G 173, G 174, G 175, G 176, G 177, G 178, G 179, G 180, G 181], []⟩ wr := by
  have hlt : i < f.ins.length := (List.getElem?_eq_some_iff.1 hx).1
  have hi0 : (0 : Int) ≤ (i : Int) := by omega
  have hi1 : (i : Int) < (f.ins.length : Int) := by omega
  have hw : IntKind.i64.wrap ((i : Int) + 1) = (i : Int) + 1 := IntWalk.i64_in _ (by omega)
  obtain ⟨c0, c1, c2, c3, c4, c5, c6⟩ := hF.cells
  obtain ⟨c7, c8, c9, c10⟩ := hc
  have hwi : (Lit.int .i64 (i : Int)).wf = true := by simp [Lit.wf, IntKind.min, IntKind.max, IntKind.signed, IntKind.bits]; omega
  have hl : ∀ (w : World), KnM w mB m K → ∀ (ops : Array Oper) (rest : List Oper) (o : Oper) (a : Act) (Q : Exit → Act → World → Prop) (y z : Operand), o.guard = none → o.op = Op.lookup 181 y z true → a.eval y = .map (some mB) → a.eval z = .int .i64 (i : Int) → wpList Tryz.prog ops Q rest (a.put o.dst (.tuple #[.int .i64 n, .bool true])) w → wpList Tryz.prog ops Q (o :: rest) a w := fun w hMw ops rest o a Q y z e1 e2 e3 e4 h => look_kn w e1 y z e2 mB m K e3 hMw i hwi e4 (by rw [hK]; exact h)
  have hbX : Below wr.heap.size wr (wr.alloc (.cells #[.int .i64 x.op, .int .i64 x.a, .int .i64 x.b, .int .i64 x.n] 123)) := (Below.refl _ _).alloc (Nat.le_refl _) _
  have x0 : ∀ w2, Below (wr.alloc (.cells #[.int .i64 x.op, .int .i64 x.a, .int .i64 x.b, .int .i64 x.n] 123)).heap.size (wr.alloc (.cells #[.int .i64 x.op, .int .i64 x.a, .int .i64 x.b, .int .i64 x.n] 123)) w2 → w2.cell? ⟨wr.heap.size, 0, none⟩ = some (.int .i64 x.op) := fun w2 hb => (hb.cell (p := ⟨wr.heap.size, 0, none⟩) (by simp)).trans (by simp)
  have htb : (tk == n) = false := by simpa using hbad
  obtain ⟨d0, d1, d2, d3, d4, d5, d6⟩ := (hF.keep hbX).cells
  replace x0 := fun w2 hb => (x0 w2 hb).trans (show some (Value.int .i64 x.op) = some (.int .i64 17) by rw [hop])
  clear hop
  unfold codeV2 insV2 at hT
  clear hK hF hx
  conv => arg 2; whnf
  go_wp2_with (first
    | (at_lookup; refine hl _ (hM.kept (World.grownBy_alloc wr (.cells #[.int .i64 x.op, .int .i64 x.a, .int .i64 x.b, .int .i64 x.n] 123) none) (by simp)) _ _ _ _ _ _ _ rfl rfl rfl rfl ?_)
    | (go_at_call 71; refine (hT _ hbX).mono ?_; clear hT; rintro e w2 ⟨rfl, hb2⟩; have y0 := x0 w2 hb2; dsimp only)
    | go_in)
  exact hret _ _ rfl rfl rfl (below_trans hbX hb2)
set_option maxRecDepth 100000 in
set_option maxHeartbeats 8000000 in
theorem flow_ret16 {wr : World} {C : Cd.Code} {f : Cd.Fun} {vb vc vd : Value} {cB fB gv kv cv i mB m : Nat} {x : Cd.Ins} {K : Cd.Kn} {n tk pt : Int} (F G : Nat → Value) (Q0 : Exit → Act → World → Prop) (h3 : F 3 = .pointer (some ⟨cB, 0, none⟩)) (h4 : F 4 = .pointer (some ⟨fB, 0, none⟩)) (h10 : F 10 = .map (some mB))
    (hF : Fc C f vb vc vd (.slice (some ⟨gv, kv, none⟩) f.ins.length cv) cB fB wr) (hx : f.ins[i]? = some x) (hc : wr.cell? ⟨gv, kv + i * 4, none⟩ = some (.int .i64 x.op) ∧ wr.cell? ⟨gv, kv + i * 4 + 1, none⟩ = some (.int .i64 x.a) ∧ wr.cell? ⟨gv, kv + i * 4 + 2, none⟩ = some (.int .i64 x.b) ∧ wr.cell? ⟨gv, kv + i * 4 + 3, none⟩ = some (.int .i64 x.n)) (hn : f.ins.length ≤ 65535)
    (hM : KnM wr mB m K) (hT : ∀ w', Below wr.heap.size wr w' → Calls Tryz.prog 71 #[codeV2 C vb vc vd, insV2 x] w' fun e w2 => e = .returned (.tuple #[.int .i64 tk, .int .i64 pt]) ∧ Below w'.heap.size w' w2) (hn0 : 0 ≤ n ∧ n ≤ 4000) (htk : 0 ≤ tk ∧ tk ≤ 100000) (hpt : 0 ≤ pt ∧ pt ≤ 1) (hK : K i = some n) (hle : ¬ n < tk) (hop : x.op = 16) (hbad : ¬ tk = n) (hret : ∀ a' w', a'.defers = [] → a'.tmps[6]? = some (.int .i64 17) → a'.tmps[7]? = some (.int .i64 (i : Nat)) → Below wr.heap.size wr w' → Q0 .ret a' w') :
    Code.wp Tryz.prog ((Tryz.f38.body.map (fun c => (loopsOf c).getD 1 .skip)).getD .skip) (Exit.then (fun _ _ => False) Q0) ⟨#[F 0, F 1, F 2, .pointer (some ⟨cB, 0, none⟩), .pointer (some ⟨fB, 0, none⟩), G 5, G 6, G 7, G 8, G 9, .map (some mB), .int .i64 (i : Nat), G 12, G 13, G 14, G 15, G 16, G 17, G 18, G 19, G 20, G 21, G 22, G 23, G 24, G 25, G 26, G 27, G 28, G 29, G 30, G 31, G 32, G 33, G 34, G 35, G 36, G 37, G 38, G 39, G 40, G 41, G 42, G 43, G 44, G 45, G 46, G 47, G 48, G 49, G 50, G 51, G 52, G 53, G 54, G 55, G 56, G 57, G 58, G 59, G 60, G 61, G 62, G 63, G 64, G 65, G 66, G 67, G 68, G 69, G 70, G 71, G 72, G 73, G 74, G 75, G 76, G 77, G 78, G 79, G 80, G 81, G 82, G 83, G 84, G 85, G 86, G 87, G 88, G 89, G 90, G 91, G 92, G 93, G 94, G 95, G 96, G 97, G 98, G 99, G 100, G 101, G 102, G 103, G 104, G 105, G 106, G 107, G 108, G 109, G 110, G 111, G 112, G 113, G 114, G 115, G 116, G 117, G 118, G 119, G 120, G 121, G 122, G 123, G 124, G 125, G 126, G 127, G 128, G 129, G 130, G 131, G 132, G 133, G 134, G 135, G 136, G 137, G 138, G 139, G 140, G 141, G 142, G 143, G 144, G 145, G 146, G 147, G 148, G 149, G 150, G 151, G 152, G 153, G 154, G 155, G 156, G 157, G 158, G 159, G 160, G 161, G 162, G 163, G 164, G 165, G 166, G 167, G 168, G 169, G 170, G 171, G 172, G 173, G 174, G 175, G 176, G 177, G 178, G 179, G 180, G 181], []⟩ wr := by
  have hlt : i < f.ins.length := (List.getElem?_eq_some_iff.1 hx).1
  have hi0 : (0 : Int) ≤ (i : Int) := by omega
  have hi1 : (i : Int) < (f.ins.length : Int) := by omega
  have hw : IntKind.i64.wrap ((i : Int) + 1) = (i : Int) + 1 := IntWalk.i64_in _ (by omega)
  obtain ⟨c0, c1, c2, c3, c4, c5, c6⟩ := hF.cells
  obtain ⟨c7, c8, c9, c10⟩ := hc
  have hwi : (Lit.int .i64 (i : Int)).wf = true := by simp [Lit.wf, IntKind.min, IntKind.max, IntKind.signed, IntKind.bits]; omega
  have hl : ∀ (w : World), KnM w mB m K → ∀ (ops : Array Oper) (rest : List Oper) (o : Oper) (a : Act) (Q : Exit → Act → World → Prop) (y z : Operand), o.guard = none → o.op = Op.lookup 181 y z true → a.eval y = .map (some mB) → a.eval z = .int .i64 (i : Int) → wpList Tryz.prog ops Q rest (a.put o.dst (.tuple #[.int .i64 n, .bool true])) w → wpList Tryz.prog ops Q (o :: rest) a w := fun w hMw ops rest o a Q y z e1 e2 e3 e4 h => look_kn w e1 y z e2 mB m K e3 hMw i hwi e4 (by rw [hK]; exact h)
  have hbX : Below wr.heap.size wr (wr.alloc (.cells #[.int .i64 x.op, .int .i64 x.a, .int .i64 x.b, .int .i64 x.n] 123)) := (Below.refl _ _).alloc (Nat.le_refl _) _
  have x0 : ∀ w2, Below (wr.alloc (.cells #[.int .i64 x.op, .int .i64 x.a, .int .i64 x.b, .int .i64 x.n] 123)).heap.size (wr.alloc (.cells #[.int .i64 x.op, .int .i64 x.a, .int .i64 x.b, .int .i64 x.n] 123)) w2 → w2.cell? ⟨wr.heap.size, 0, none⟩ = some (.int .i64 x.op) := fun w2 hb => (hb.cell (p := ⟨wr.heap.size, 0, none⟩) (by simp)).trans (by simp)
  have htb : (tk == n) = false := by simpa using hbad
  obtain ⟨d0, d1, d2, d3, d4, d5, d6⟩ := (hF.keep hbX).cells
  replace x0 := fun w2 hb => (x0 w2 hb).trans (show some (Value.int .i64 x.op) = some (.int .i64 16) by rw [hop])
  clear hop
  unfold codeV2 insV2 at hT
  clear hK hF hx
  conv => arg 2; whnf
  go_wp2_with (first
    | (at_lookup; refine hl _ (hM.kept (World.grownBy_alloc wr (.cells #[.int .i64 x.op, .int .i64 x.a, .int .i64 x.b, .int .i64 x.n] 123) none) (by simp)) _ _ _ _ _ _ _ rfl rfl rfl rfl ?_)
    | (go_at_call 71; refine (hT _ hbX).mono ?_; clear hT; rintro e w2 ⟨rfl, hb2⟩; have y0 := x0 w2 hb2; dsimp only)
    | go_in)
  exact hret _ _ rfl rfl rfl (below_trans hbX hb2)
set_option maxRecDepth 100000 in
set_option maxHeartbeats 8000000 in
theorem flow_big {wr : World} {C : Cd.Code} {f : Cd.Fun} {vb vc vd : Value} {cB fB gv kv cv i mB m : Nat} {x : Cd.Ins} {K : Cd.Kn} {n tk pt : Int} (F G : Nat → Value) (Q0 : Exit → Act → World → Prop) (h3 : F 3 = .pointer (some ⟨cB, 0, none⟩)) (h4 : F 4 = .pointer (some ⟨fB, 0, none⟩)) (h10 : F 10 = .map (some mB))
    (hF : Fc C f vb vc vd (.slice (some ⟨gv, kv, none⟩) f.ins.length cv) cB fB wr) (hx : f.ins[i]? = some x) (hc : wr.cell? ⟨gv, kv + i * 4, none⟩ = some (.int .i64 x.op) ∧ wr.cell? ⟨gv, kv + i * 4 + 1, none⟩ = some (.int .i64 x.a) ∧ wr.cell? ⟨gv, kv + i * 4 + 2, none⟩ = some (.int .i64 x.b) ∧ wr.cell? ⟨gv, kv + i * 4 + 3, none⟩ = some (.int .i64 x.n)) (hn : f.ins.length ≤ 65535)
    (hM : KnM wr mB m K) (hT : ∀ w', Below wr.heap.size wr w' → Calls Tryz.prog 71 #[codeV2 C vb vc vd, insV2 x] w' fun e w2 => e = .returned (.tuple #[.int .i64 tk, .int .i64 pt]) ∧ Below w'.heap.size w' w2) (hn0 : 0 ≤ n ∧ n ≤ 4000) (htk : 0 ≤ tk ∧ tk ≤ 100000) (hpt : 0 ≤ pt ∧ pt ≤ 1) (hK : K i = some n) (hle : ¬ n < tk) (hop : ¬ x.op = 17) (hop2 : ¬ x.op = 16) (hbad : 4000 < n - tk + pt) (hret : ∀ a' w', a'.defers = [] → a'.tmps[6]? = some (.int .i64 17) → a'.tmps[7]? = some (.int .i64 (i : Nat)) → Below wr.heap.size wr w' → Q0 .ret a' w') :
    Code.wp Tryz.prog ((Tryz.f38.body.map (fun c => (loopsOf c).getD 1 .skip)).getD .skip) (Exit.then (fun _ _ => False) Q0) ⟨#[F 0, F 1, F 2, .pointer (some ⟨cB, 0, none⟩), .pointer (some ⟨fB, 0, none⟩), G 5, G 6, G 7, G 8, G 9, .map (some mB), .int .i64 (i : Nat), G 12, G 13, G 14, G 15, G 16, G 17, G 18, G 19, G 20, G 21, G 22, G 23, G 24, G 25, G 26, G 27, G 28, G 29, G 30, G 31, G 32, G 33, G 34, G 35, G 36, G 37, G 38, G 39, G 40, G 41, G 42, G 43, G 44, G 45, G 46, G 47, G 48, G 49, G 50, G 51, G 52, G 53, G 54, G 55, G 56, G 57, G 58, G 59, G 60, G 61, G 62, G 63, G 64, G 65, G 66, G 67, G 68, G 69, G 70, G 71, G 72, G 73, G 74, G 75, G 76, G 77, G 78, G 79, G 80, G 81, G 82, G 83, G 84, G 85, G 86, G 87, G 88, G 89, G 90, G 91, G 92, G 93, G 94, G 95, G 96, G 97, G 98, G 99, G 100, G 101, G 102, G 103, G 104, G 105, G 106, G 107, G 108, G 109, G 110, G 111, G 112, G 113, G 114, G 115, G 116, G 117, G 118, G 119, G 120, G 121, G 122, G 123, G 124, G 125, G 126, G 127, G 128, G 129, G 130, G 131, G 132, G 133, G 134, G 135, G 136, G 137, G 138, G 139, G 140, G 141, G 142, G 143, G 144, G 145, G 146, G 147, G 148, G 149, G 150, G 151, G 152, G 153, G 154, G 155, G 156, G 157, G 158, G 159, G 160, G 161, G 162, G 163, G 164, G 165, G 166, G 167, G 168, G 169, G 170, G 171, G 172, G 173, G 174, G 175, G 176, G 177, G 178, G 179, G 180, G 181], []⟩ wr := by
  have hlt : i < f.ins.length := (List.getElem?_eq_some_iff.1 hx).1
  have hi0 : (0 : Int) ≤ (i : Int) := by omega
  have hi1 : (i : Int) < (f.ins.length : Int) := by omega
  have hw : IntKind.i64.wrap ((i : Int) + 1) = (i : Int) + 1 := IntWalk.i64_in _ (by omega)
  obtain ⟨c0, c1, c2, c3, c4, c5, c6⟩ := hF.cells
  obtain ⟨c7, c8, c9, c10⟩ := hc
  have hwi : (Lit.int .i64 (i : Int)).wf = true := by simp [Lit.wf, IntKind.min, IntKind.max, IntKind.signed, IntKind.bits]; omega
  have hl : ∀ (w : World), KnM w mB m K → ∀ (ops : Array Oper) (rest : List Oper) (o : Oper) (a : Act) (Q : Exit → Act → World → Prop) (y z : Operand), o.guard = none → o.op = Op.lookup 181 y z true → a.eval y = .map (some mB) → a.eval z = .int .i64 (i : Int) → wpList Tryz.prog ops Q rest (a.put o.dst (.tuple #[.int .i64 n, .bool true])) w → wpList Tryz.prog ops Q (o :: rest) a w := fun w hMw ops rest o a Q y z e1 e2 e3 e4 h => look_kn w e1 y z e2 mB m K e3 hMw i hwi e4 (by rw [hK]; exact h)
  have hbX : Below wr.heap.size wr (wr.alloc (.cells #[.int .i64 x.op, .int .i64 x.a, .int .i64 x.b, .int .i64 x.n] 123)) := (Below.refl _ _).alloc (Nat.le_refl _) _
  have x0 : ∀ w2, Below (wr.alloc (.cells #[.int .i64 x.op, .int .i64 x.a, .int .i64 x.b, .int .i64 x.n] 123)).heap.size (wr.alloc (.cells #[.int .i64 x.op, .int .i64 x.a, .int .i64 x.b, .int .i64 x.n] 123)) w2 → w2.cell? ⟨wr.heap.size, 0, none⟩ = some (.int .i64 x.op) := fun w2 hb => (hb.cell (p := ⟨wr.heap.size, 0, none⟩) (by simp)).trans (by simp)
  have hw1 : IntKind.i64.wrap (n - tk) = n - tk := IntWalk.i64_in _ (by omega)
  have hw2 : IntKind.i64.wrap (n - tk + pt) = n - tk + pt := IntWalk.i64_in _ (by omega)
  obtain ⟨d0, d1, d2, d3, d4, d5, d6⟩ := (hF.keep hbX).cells
  unfold codeV2 insV2 at hT
  clear hK hF hx
  conv => arg 2; whnf
  go_wp2_with (first
    | (at_lookup; refine hl _ (hM.kept (World.grownBy_alloc wr (.cells #[.int .i64 x.op, .int .i64 x.a, .int .i64 x.b, .int .i64 x.n] 123) none) (by simp)) _ _ _ _ _ _ _ rfl rfl rfl rfl ?_)
    | (go_at_call 71; refine (hT _ hbX).mono ?_; clear hT; rintro e w2 ⟨rfl, hb2⟩; have y0 := x0 w2 hb2; dsimp only)
    | go_in)
  exact hret _ _ rfl rfl rfl (below_trans hbX hb2)
end Go.Proofs.YtpjbfdpblgjmfaaGreatDoor

namespace Go.Proofs.YtpjbfdpblgjmfaaGreatDoor
open Go.RowKit Go.Maps

theorem below_grown {w w' : World} {o : Option Nat} (h : Below w.heap.size w w') : w.grownBy w' o := ⟨h.os, h.tape, h.output, h.size, fun i hi _ => h.block i hi⟩
theorem to_loop2 {W : World} {K : Cd.Kn} {mB m i gt tc : Nat} {ta : Option Addr} {n : Int} {ts : List Int} (a0 : Act) (Q0 : Exit → Act → World → Prop) (hsz : a0.tmps.size = 182) (hdf : a0.defers = []) (h10 : a0.tmps.getD 10 undef = .map (some mB)) (h11 : a0.tmps.getD 11 undef = .int .i64 (i : Nat)) (h13 : a0.tmps.getD 13 undef = .int .i64 n) (h17 : a0.tmps.getD 17 undef = .slice ta ts.length tc) (h18 : a0.tmps[18]? = some (.int .i64 0)) (hM : KnM W mB m K) (hm : m + 2 < 1000000) (hlen : ts.length ≤ 2) (hta : ts ≠ [] → ta = some ⟨gt, 0, none⟩) (ct : ∀ j x, ts[j]? = some x → W.cell? ⟨gt, j, none⟩ = some (.int .i64 x)) (hne : gt ≠ mB) (hwx : ∀ x ∈ ts, (Lit.int .i64 x).wf = true) (hwn : (Lit.int .i64 n).wf = true)
    (hret : ∀ a' w', a'.defers = [] → a'.tmps[6]? = some (.int .i64 17) → a'.tmps[7]? = some (.int .i64 (i : Nat)) → W.grownBy w' (some mB) → Cd.flow1 i n ts K = none → Q0 .ret a' w')
    (hexit : ∀ a' w' K' m', FrL [0, 1, 2, 3, 4, 10, 11, 13, 17] (fun i => a0.tmps.getD i undef) a' → Cd.flow1 i n ts K = some K' → m' ≤ m + 2 → KnM w' mB m' K' → W.grownBy w' (some mB) → Q0 (.exit 4) a' w') : Code.wp Tryz.prog (Code.loop ((firstLoop ((Tryz.f38.body.map (fun c => (loopsOf c).getD 1 .skip)).getD .skip)).getD .skip)) Q0 a0 W :=
  to_loop (fun i => a0.tmps.getD i undef) Q0 h10 h11 h13 h17 hM hm hlen hta ct hne hwx hwn a0 (frl_self hsz hdf (by simp)) h18 hret hexit
set_option maxRecDepth 100000 in
set_option maxHeartbeats 8000000 in
theorem flow_on_r17 {wr : World} {C : Cd.Code} {f : Cd.Fun} {vb vc vd : Value} {cB fB gv kv cv i mB m : Nat} {x : Cd.Ins} {K : Cd.Kn} {n tk pt : Int} (F G : Nat → Value) (Q0 : Exit → Act → World → Prop) (h3 : F 3 = .pointer (some ⟨cB, 0, none⟩)) (h4 : F 4 = .pointer (some ⟨fB, 0, none⟩)) (h10 : F 10 = .map (some mB))
    (hF : Fc C f vb vc vd (.slice (some ⟨gv, kv, none⟩) f.ins.length cv) cB fB wr) (hx : f.ins[i]? = some x) (hc : wr.cell? ⟨gv, kv + i * 4, none⟩ = some (.int .i64 x.op) ∧ wr.cell? ⟨gv, kv + i * 4 + 1, none⟩ = some (.int .i64 x.a) ∧ wr.cell? ⟨gv, kv + i * 4 + 2, none⟩ = some (.int .i64 x.b) ∧ wr.cell? ⟨gv, kv + i * 4 + 3, none⟩ = some (.int .i64 x.n)) (hn : f.ins.length ≤ 65535)
    (hM : KnM wr mB m K) (hT : ∀ w', Below wr.heap.size wr w' → Calls Tryz.prog 71 #[codeV2 C vb vc vd, insV2 x] w' fun e w2 => e = .returned (.tuple #[.int .i64 tk, .int .i64 pt]) ∧ Below w'.heap.size w' w2) (hn0 : 0 ≤ n ∧ n ≤ 4000) (htk : 0 ≤ tk ∧ tk ≤ 100000) (hpt : 0 ≤ pt ∧ pt ≤ 1) (hK : K i = some n) (hle : ¬ n < tk) (hsm : ¬ 4000 < n - tk + pt) (hop : x.op = 17) (hbad : tk = n) (hm : m + 2 < 1000000) (hwa : (Lit.int .i64 x.a).wf = true) (hret : ∀ a' w', a'.defers = [] → a'.tmps[6]? = some (.int .i64 17) → a'.tmps[7]? = some (.int .i64 (i : Nat)) → wr.grownBy w' (some mB) → Cd.flow1 i (n - tk + pt) [] K = none → Q0 .ret a' w') :
    Code.wp Tryz.prog ((Tryz.f38.body.map (fun c => (loopsOf c).getD 1 .skip)).getD .skip) (Exit.then (fun a' w' => ∃ K' m', Cd.flow1 i (n - tk + pt) [] K = some K' ∧ m' ≤ m + 2 ∧ FrL [0, 1, 2, 3, 4, 10] F a' ∧ a'.tmps[11]? = some (.int .i64 ((i : Int) + 1)) ∧ KnM w' mB m' K' ∧ wr.grownBy w' (some mB)) Q0) ⟨#[F 0, F 1, F 2, .pointer (some ⟨cB, 0, none⟩), .pointer (some ⟨fB, 0, none⟩), G 5, G 6, G 7, G 8, G 9, .map (some mB), .int .i64 (i : Nat), G 12, G 13, G 14, G 15, G 16, G 17, G 18, G 19, G 20, G 21, G 22, G 23, G 24, G 25, G 26, G 27, G 28, G 29, G 30, G 31, G 32, G 33, G 34, G 35, G 36, G 37, G 38, G 39, G 40, G 41, G 42, G 43, G 44, G 45, G 46, G 47, G 48, G 49, G 50, G 51, G 52, G 53, G 54, G 55, G 56, G 57, G 58, G 59, G 60, G 61, G 62, G 63, G 64, G 65, G 66, G 67, G 68, G 69, G 70, G 71, G 72, G 73, G 74, G 75, G 76, G 77, G 78, G 79, G 80, G 81, G 82, G 83, G 84, G 85, G 86, G 87, G 88, G 89, G 90, G 91, G 92, G 93, G 94, G 95, G 96, G 97, G 98, G 99, G 100, G 101, G 102, G 103, G 104, G 105, G 106, G 107, G 108, G 109, G 110, G 111, G 112, G 113, G 114, G 115, G 116, G 117, G 118, G 119, G 120, G 121, G 122, G 123, G 124, G 125, G 126, G 127, G 128, G 129, G 130, G 131, G 132, G 133, G 134, G 135, G 136, G 137, G 138, G 139, G 140, G 141, G 142, G 143, G 144, G 145, G 146, G 147, G 148, G 149, G 150, G 151, G 152, G 153, G 154, G 155, G 156, G 157, G 158, G 159, G 160, G 161, G 162, G 163, G 164, G 165, G 166, G 167, G 168, G 169, G 170, G 171, G 172, G 173, G 174, G 175, G 176, G 177, G 178, G 179, G 180, G 181], []⟩ wr := by
  have hlt : i < f.ins.length := (List.getElem?_eq_some_iff.1 hx).1
  have hi0 : (0 : Int) ≤ (i : Int) := by omega
  have hi1 : (i : Int) < (f.ins.length : Int) := by omega
  have hw : IntKind.i64.wrap ((i : Int) + 1) = (i : Int) + 1 := IntWalk.i64_in _ (by omega)
  obtain ⟨c0, c1, c2, c3, c4, c5, c6⟩ := hF.cells
  obtain ⟨c7, c8, c9, c10⟩ := hc
  have hwi : (Lit.int .i64 (i : Int)).wf = true := by simp [Lit.wf, IntKind.min, IntKind.max, IntKind.signed, IntKind.bits]; omega
  have hl : ∀ (w : World), KnM w mB m K → ∀ (ops : Array Oper) (rest : List Oper) (o : Oper) (a : Act) (Q : Exit → Act → World → Prop) (y z : Operand), o.guard = none → o.op = Op.lookup 181 y z true → a.eval y = .map (some mB) → a.eval z = .int .i64 (i : Int) → wpList Tryz.prog ops Q rest (a.put o.dst (.tuple #[.int .i64 n, .bool true])) w → wpList Tryz.prog ops Q (o :: rest) a w := fun w hMw ops rest o a Q y z e1 e2 e3 e4 h => look_kn w e1 y z e2 mB m K e3 hMw i hwi e4 (by rw [hK]; exact h)
  have hbX : Below wr.heap.size wr (wr.alloc (.cells #[.int .i64 x.op, .int .i64 x.a, .int .i64 x.b, .int .i64 x.n] 123)) := (Below.refl _ _).alloc (Nat.le_refl _) _
  have x0 : ∀ w2, Below (wr.alloc (.cells #[.int .i64 x.op, .int .i64 x.a, .int .i64 x.b, .int .i64 x.n] 123)).heap.size (wr.alloc (.cells #[.int .i64 x.op, .int .i64 x.a, .int .i64 x.b, .int .i64 x.n] 123)) w2 → w2.cell? ⟨wr.heap.size, 0, none⟩ = some (.int .i64 x.op) := fun w2 hb => (hb.cell (p := ⟨wr.heap.size, 0, none⟩) (by simp)).trans (by simp)
  have xa : ∀ w2, Below (wr.alloc (.cells #[.int .i64 x.op, .int .i64 x.a, .int .i64 x.b, .int .i64 x.n] 123)).heap.size (wr.alloc (.cells #[.int .i64 x.op, .int .i64 x.a, .int .i64 x.b, .int .i64 x.n] 123)) w2 → w2.cell? ⟨wr.heap.size, 1, none⟩ = some (.int .i64 x.a) := fun w2 hb => (hb.cell (p := ⟨wr.heap.size, 1, none⟩) (by simp)).trans (by simp)
  have hw1 : IntKind.i64.wrap (n - tk) = n - tk := IntWalk.i64_in _ (by omega)
  have hw2 : IntKind.i64.wrap (n - tk + pt) = n - tk + pt := IntWalk.i64_in _ (by omega)
  obtain ⟨d0, d1, d2, d3, d4, d5, d6⟩ := (hF.keep hbX).cells
  have hwn : (Lit.int .i64 (n - tk + pt)).wf = true := by simp [Lit.wf, IntKind.min, IntKind.max, IntKind.signed, IntKind.bits]; omega
  have htb : (tk == n) = true := by simpa using hbad
  clear hbad
  replace x0 := fun w2 hb => (x0 w2 hb).trans (show some (Value.int .i64 x.op) = some (.int .i64 17) by rw [hop])
  clear hop
  unfold codeV2 insV2 at hT
  replace hm := hid hm
  replace hwn := hid hwn
  replace hwa := hid hwa
  clear hK hF hx
  conv => arg 2; whnf
  go_wp2_with (first
    | (at_lookup; refine hl _ (hM.kept (World.grownBy_alloc wr (.cells #[.int .i64 x.op, .int .i64 x.a, .int .i64 x.b, .int .i64 x.n] 123) none) (by simp)) _ _ _ _ _ _ _ rfl rfl rfl rfl ?_)
    | (go_at_call 71; refine (hT _ hbX).mono ?_; clear hT; rintro e w2 ⟨rfl, hb2⟩; have y0 := x0 w2 hb2; have y1 := xa w2 hb2; dsimp only)
    | go_in)
  have hwi1 : (Lit.int .i64 ((i : Int) + 1)).wf = true := by simp [Lit.wf, IntKind.min, IntKind.max, IntKind.signed, IntKind.bits]; omega
  have hg2 : wr.grownBy w2 (some mB) := below_grown (below_trans hbX hb2)
  have hM2 : KnM w2 mB m K := hM.kept (below_grown (o := none) (below_trans hbX hb2)) (by simp)
  refine to_loop2 (W := w2) (gt := mB + 1) (n := n - tk + pt) (ts := []) _ _ rfl rfl rfl rfl rfl rfl rfl hM2 hm.out (by simp) (fun h => absurd rfl h) (fun j y h => by simp at h) (by omega) (fun y h => by simp at h) hwn.out (fun a' w' e1 e2 e3 e4 e5 => hret a' w' e1 e2 e3 (grown_trans hg2 e4) e5) ?_
  intro a4 w4 K4 m4 hf4 hk4 hm4 hM4 hg4
  obtain ⟨G, rfl, hG⟩ := act_open2 hf4.sz hf4.df
  have g0 : G 0 = F 0 := hG 0 _ (hf4.k 0 (by simp))
  have g1 : G 1 = F 1 := hG 1 _ (hf4.k 1 (by simp))
  have g2 : G 2 = F 2 := hG 2 _ (hf4.k 2 (by simp))
  have g3 : G 3 = .pointer (some ⟨cB, 0, none⟩) := hG 3 _ (hf4.k 3 (by simp))
  have g4 : G 4 = .pointer (some ⟨fB, 0, none⟩) := hG 4 _ (hf4.k 4 (by simp))
  have g10 : G 10 = .map (some mB) := hG 10 _ (hf4.k 10 (by simp))
  have g11 : G 11 = .int .i64 (i : Nat) := hG 11 _ (hf4.k 11 (by simp))
  rw [g0, g1, g2, g3, g4, g10, g11]
  clear hG hf4
  go_wp2
  exact ⟨K4, m4, hk4, hm4, ⟨rfl, rfl, (by
      intro x9 hx9
      simp only [List.mem_cons, List.not_mem_nil, or_false] at hx9
      rcases hx9 with rfl | rfl | rfl | rfl | rfl | rfl
      all_goals first
        | rfl
        | exact congrArg some h3.symm
        | exact congrArg some h4.symm
        | exact congrArg some h10.symm)⟩, rfl, hM4, grown_trans hg2 hg4⟩
set_option maxRecDepth 100000 in
set_option maxHeartbeats 8000000 in
theorem flow_on_r16 {wr : World} {C : Cd.Code} {f : Cd.Fun} {vb vc vd : Value} {cB fB gv kv cv i mB m : Nat} {x : Cd.Ins} {K : Cd.Kn} {n tk pt : Int} (F G : Nat → Value) (Q0 : Exit → Act → World → Prop) (h3 : F 3 = .pointer (some ⟨cB, 0, none⟩)) (h4 : F 4 = .pointer (some ⟨fB, 0, none⟩)) (h10 : F 10 = .map (some mB))
    (hF : Fc C f vb vc vd (.slice (some ⟨gv, kv, none⟩) f.ins.length cv) cB fB wr) (hx : f.ins[i]? = some x) (hc : wr.cell? ⟨gv, kv + i * 4, none⟩ = some (.int .i64 x.op) ∧ wr.cell? ⟨gv, kv + i * 4 + 1, none⟩ = some (.int .i64 x.a) ∧ wr.cell? ⟨gv, kv + i * 4 + 2, none⟩ = some (.int .i64 x.b) ∧ wr.cell? ⟨gv, kv + i * 4 + 3, none⟩ = some (.int .i64 x.n)) (hn : f.ins.length ≤ 65535)
    (hM : KnM wr mB m K) (hT : ∀ w', Below wr.heap.size wr w' → Calls Tryz.prog 71 #[codeV2 C vb vc vd, insV2 x] w' fun e w2 => e = .returned (.tuple #[.int .i64 tk, .int .i64 pt]) ∧ Below w'.heap.size w' w2) (hn0 : 0 ≤ n ∧ n ≤ 4000) (htk : 0 ≤ tk ∧ tk ≤ 100000) (hpt : 0 ≤ pt ∧ pt ≤ 1) (hK : K i = some n) (hle : ¬ n < tk) (hsm : ¬ 4000 < n - tk + pt) (hop : x.op = 16) (hbad : tk = n) (hm : m + 2 < 1000000) (hwa : (Lit.int .i64 x.a).wf = true) (hret : ∀ a' w', a'.defers = [] → a'.tmps[6]? = some (.int .i64 17) → a'.tmps[7]? = some (.int .i64 (i : Nat)) → wr.grownBy w' (some mB) → Cd.flow1 i (n - tk + pt) [] K = none → Q0 .ret a' w') :
    Code.wp Tryz.prog ((Tryz.f38.body.map (fun c => (loopsOf c).getD 1 .skip)).getD .skip) (Exit.then (fun a' w' => ∃ K' m', Cd.flow1 i (n - tk + pt) [] K = some K' ∧ m' ≤ m + 2 ∧ FrL [0, 1, 2, 3, 4, 10] F a' ∧ a'.tmps[11]? = some (.int .i64 ((i : Int) + 1)) ∧ KnM w' mB m' K' ∧ wr.grownBy w' (some mB)) Q0) ⟨#[F 0, F 1, F 2, .pointer (some ⟨cB, 0, none⟩), .pointer (some ⟨fB, 0, none⟩), G 5, G 6, G 7, G 8, G 9, .map (some mB), .int .i64 (i : Nat), G 12, G 13, G 14, G 15, G 16, G 17, G 18, G 19, G 20, G 21, G 22, G 23, G 24, G 25, G 26, G 27, G 28, G 29, G 30, G 31, G 32, G 33, G 34, G 35, G 36, G 37, G 38, G 39, G 40, G 41, G 42, G 43, G 44, G 45, G 46, G 47, G 48, G 49, G 50, G 51, G 52, G 53, G 54, G 55, G 56, G 57, G 58, G 59, G 60, G 61, G 62, G 63, G 64, G 65, G 66, G 67, G 68, G 69, G 70, G 71, G 72, G 73, G 74, G 75, G 76, G 77, G 78, G 79, G 80, G 81, G 82, G 83, G 84, G 85, G 86, G 87, G 88, G 89, G 90, G 91, G 92, G 93, G 94, G 95, G 96, G 97, G 98, G 99, G 100, G 101, G 102, G 103, G 104, G 105, G 106, G 107, G 108, G 109, G 110, G 111, G 112, G 113, G 114, G 115, G 116, G 117, G 118, G 119, G 120, G 121, G 122, G 123, G 124, G 125, G 126, G 127, G 128, G 129, G 130, G 131, G 132, G 133, G 134, G 135, G 136, G 137, G 138, G 139, G 140, G 141, G 142, G 143, G 144, G 145, G 146, G 147, G 148, G 149, G 150, G 151, G 152, G 153, G 154, G 155, G 156, G 157, G 158, G 159, G 160, G 161, G 162, G 163, G 164, G 165, G 166, G 167, G 168, G 169, G 170, G 171, G 172, G 173, G 174, G 175, G 176, G 177, G 178, G 179, G 180, G 181], []⟩ wr := by
  have hlt : i < f.ins.length := (List.getElem?_eq_some_iff.1 hx).1
  have hi0 : (0 : Int) ≤ (i : Int) := by omega
  have hi1 : (i : Int) < (f.ins.length : Int) := by omega
  have hw : IntKind.i64.wrap ((i : Int) + 1) = (i : Int) + 1 := IntWalk.i64_in _ (by omega)
  obtain ⟨c0, c1, c2, c3, c4, c5, c6⟩ := hF.cells
  obtain ⟨c7, c8, c9, c10⟩ := hc
  have hwi : (Lit.int .i64 (i : Int)).wf = true := by simp [Lit.wf, IntKind.min, IntKind.max, IntKind.signed, IntKind.bits]; omega
  have hl : ∀ (w : World), KnM w mB m K → ∀ (ops : Array Oper) (rest : List Oper) (o : Oper) (a : Act) (Q : Exit → Act → World → Prop) (y z : Operand), o.guard = none → o.op = Op.lookup 181 y z true → a.eval y = .map (some mB) → a.eval z = .int .i64 (i : Int) → wpList Tryz.prog ops Q rest (a.put o.dst (.tuple #[.int .i64 n, .bool true])) w → wpList Tryz.prog ops Q (o :: rest) a w := fun w hMw ops rest o a Q y z e1 e2 e3 e4 h => look_kn w e1 y z e2 mB m K e3 hMw i hwi e4 (by rw [hK]; exact h)
  have hbX : Below wr.heap.size wr (wr.alloc (.cells #[.int .i64 x.op, .int .i64 x.a, .int .i64 x.b, .int .i64 x.n] 123)) := (Below.refl _ _).alloc (Nat.le_refl _) _
  have x0 : ∀ w2, Below (wr.alloc (.cells #[.int .i64 x.op, .int .i64 x.a, .int .i64 x.b, .int .i64 x.n] 123)).heap.size (wr.alloc (.cells #[.int .i64 x.op, .int .i64 x.a, .int .i64 x.b, .int .i64 x.n] 123)) w2 → w2.cell? ⟨wr.heap.size, 0, none⟩ = some (.int .i64 x.op) := fun w2 hb => (hb.cell (p := ⟨wr.heap.size, 0, none⟩) (by simp)).trans (by simp)
  have xa : ∀ w2, Below (wr.alloc (.cells #[.int .i64 x.op, .int .i64 x.a, .int .i64 x.b, .int .i64 x.n] 123)).heap.size (wr.alloc (.cells #[.int .i64 x.op, .int .i64 x.a, .int .i64 x.b, .int .i64 x.n] 123)) w2 → w2.cell? ⟨wr.heap.size, 1, none⟩ = some (.int .i64 x.a) := fun w2 hb => (hb.cell (p := ⟨wr.heap.size, 1, none⟩) (by simp)).trans (by simp)
  have hw1 : IntKind.i64.wrap (n - tk) = n - tk := IntWalk.i64_in _ (by omega)
  have hw2 : IntKind.i64.wrap (n - tk + pt) = n - tk + pt := IntWalk.i64_in _ (by omega)
  obtain ⟨d0, d1, d2, d3, d4, d5, d6⟩ := (hF.keep hbX).cells
  have hwn : (Lit.int .i64 (n - tk + pt)).wf = true := by simp [Lit.wf, IntKind.min, IntKind.max, IntKind.signed, IntKind.bits]; omega
  have htb : (tk == n) = true := by simpa using hbad
  clear hbad
  replace x0 := fun w2 hb => (x0 w2 hb).trans (show some (Value.int .i64 x.op) = some (.int .i64 16) by rw [hop])
  clear hop
  unfold codeV2 insV2 at hT
  replace hm := hid hm
  replace hwn := hid hwn
  replace hwa := hid hwa
  clear hK hF hx
  conv => arg 2; whnf
  go_wp2_with (first
    | (at_lookup; refine hl _ (hM.kept (World.grownBy_alloc wr (.cells #[.int .i64 x.op, .int .i64 x.a, .int .i64 x.b, .int .i64 x.n] 123) none) (by simp)) _ _ _ _ _ _ _ rfl rfl rfl rfl ?_)
    | (go_at_call 71; refine (hT _ hbX).mono ?_; clear hT; rintro e w2 ⟨rfl, hb2⟩; have y0 := x0 w2 hb2; have y1 := xa w2 hb2; dsimp only)
    | go_in)
  have hwi1 : (Lit.int .i64 ((i : Int) + 1)).wf = true := by simp [Lit.wf, IntKind.min, IntKind.max, IntKind.signed, IntKind.bits]; omega
  have hg2 : wr.grownBy w2 (some mB) := below_grown (below_trans hbX hb2)
  have hM2 : KnM w2 mB m K := hM.kept (below_grown (o := none) (below_trans hbX hb2)) (by simp)
  refine to_loop2 (W := w2) (gt := mB + 1) (n := n - tk + pt) (ts := []) _ _ rfl rfl rfl rfl rfl rfl rfl hM2 hm.out (by simp) (fun h => absurd rfl h) (fun j y h => by simp at h) (by omega) (fun y h => by simp at h) hwn.out (fun a' w' e1 e2 e3 e4 e5 => hret a' w' e1 e2 e3 (grown_trans hg2 e4) e5) ?_
  intro a4 w4 K4 m4 hf4 hk4 hm4 hM4 hg4
  obtain ⟨G, rfl, hG⟩ := act_open2 hf4.sz hf4.df
  have g0 : G 0 = F 0 := hG 0 _ (hf4.k 0 (by simp))
  have g1 : G 1 = F 1 := hG 1 _ (hf4.k 1 (by simp))
  have g2 : G 2 = F 2 := hG 2 _ (hf4.k 2 (by simp))
  have g3 : G 3 = .pointer (some ⟨cB, 0, none⟩) := hG 3 _ (hf4.k 3 (by simp))
  have g4 : G 4 = .pointer (some ⟨fB, 0, none⟩) := hG 4 _ (hf4.k 4 (by simp))
  have g10 : G 10 = .map (some mB) := hG 10 _ (hf4.k 10 (by simp))
  have g11 : G 11 = .int .i64 (i : Nat) := hG 11 _ (hf4.k 11 (by simp))
  rw [g0, g1, g2, g3, g4, g10, g11]
  clear hG hf4
  go_wp2
  exact ⟨K4, m4, hk4, hm4, ⟨rfl, rfl, (by
      intro x9 hx9
      simp only [List.mem_cons, List.not_mem_nil, or_false] at hx9
      rcases hx9 with rfl | rfl | rfl | rfl | rfl | rfl
      all_goals first
        | rfl
        | exact congrArg some h3.symm
        | exact congrArg some h4.symm
        | exact congrArg some h10.symm)⟩, rfl, hM4, grown_trans hg2 hg4⟩
end Go.Proofs.YtpjbfdpblgjmfaaGreatDoor
