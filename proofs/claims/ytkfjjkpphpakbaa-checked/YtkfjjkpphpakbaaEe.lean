/-
  The document's fun: a round of the loop over where one goes on.
-/
import Derived.Test.YtkfjjkpphpakbaaEd
set_option linter.unusedVariables false
set_option linter.unusedSimpArgs false
namespace Go.Proofs.Ytkfjjkpphpakbaa
open Go.RowKit Go.Maps

set_option maxRecDepth 100000 in
set_option maxHeartbeats 8000000 in
theorem to_a {wr : World} {K : Cd.Kn} {mB m i j gt len tc : Nat} {n x q : Int} (F G : Nat → Value) (Q0 : Exit → Act → World → Prop) (h10 : F 10 = .map (some mB)) (h11 : F 11 = .int .i64 (i : Nat)) (h13 : F 13 = .int .i64 n) (h17 : F 17 = .slice (some ⟨gt, 0, none⟩) len tc) (hM : KnM wr mB m K) (hm : m < 1000000) (hj : j < len) (hlen : len ≤ 2) (ct : wr.cell? ⟨gt, j, none⟩ = some (.int .i64 x)) (hne : gt ≠ mB) (hwx : (Lit.int .i64 x).wf = true) (hwn : (Lit.int .i64 n).wf = true) (hK : K x = some n) :
    Code.wp Try.prog ((firstLoop ((Try.f18.body.map (fun c => (loopsOf c).getD 1 .skip)).getD .skip)).getD .skip) (Exit.then (fun a' w' => FrL [0, 1, 2, 3, 4, 10, 11, 13, 17] F a' ∧ a'.tmps[18]? = some (.int .i64 ((j : Int) + 1)) ∧ KnM w' mB (m + 1) (K.put x n) ∧ wr.grownBy w' (some mB)) Q0) ⟨#[F 0, F 1, F 2, F 3, F 4, G 5, G 6, G 7, G 8, G 9, .map (some mB), .int .i64 (i : Nat), G 12, .int .i64 n, G 14, G 15, G 16, .slice (some ⟨gt, 0, none⟩) len tc, .int .i64 (j : Nat), G 19, G 20, G 21, G 22, G 23, G 24, G 25, G 26, G 27, G 28, G 29, G 30, G 31, G 32, G 33, G 34, G 35, G 36, G 37, G 38, G 39, G 40, G 41, G 42, G 43, G 44, G 45, G 46, G 47, G 48, G 49, G 50, G 51, G 52, G 53, G 54, G 55, G 56, G 57, G 58, G 59, G 60, G 61, G 62, G 63, G 64, G 65, G 66, G 67, G 68, G 69, G 70, G 71, G 72, G 73, G 74, G 75, G 76, G 77, G 78, G 79, G 80, G 81, G 82, G 83, G 84, G 85, G 86, G 87, G 88, G 89, G 90, G 91, G 92, G 93, G 94, G 95, G 96, G 97, G 98, G 99, G 100, G 101, G 102, G 103, G 104, G 105, G 106, G 107, G 108, G 109, G 110, G 111, G 112, G 113, G 114, G 115, G 116, G 117, G 118, G 119, G 120, G 121, G 122, G 123, G 124, G 125, G 126, G 127, G 128, G 129, G 130, G 131, G 132, G 133, G 134, G 135, G 136, G 137, G 138, G 139, G 140, G 141, G 142, G 143, G 144, G 145, G 146, G 147, G 148, G 149, G 150, G 151, G 152, G 153, G 154, G 155, G 156, G 157, G 158, G 159, G 160, G 161, G 162, G 163, G 164, G 165, G 166, G 167, G 168, G 169, G 170, G 171, G 172, G 173, G 174, G 175, G 176, G 177, G 178, G 179, G 180, G 181], []⟩ wr := by
  have hj0 : (0 : Int) ≤ (j : Int) := by omega
  have hj1 : (j : Int) < (len : Int) := by omega
  have hw : IntKind.i64.wrap ((j : Int) + 1) = (j : Int) + 1 := IntWalk.i64_in _ (by omega)
  have hml : m < maxLen := by unfold maxLen; omega
  have hl : ∀ (ops : Array Oper) (rest : List Oper) (o : Oper) (a : Act) (Q : Exit → Act → World → Prop) (y z : Operand), o.guard = none → o.op = Op.lookup 74 y z true → a.eval y = .map (some mB) → a.eval z = .int .i64 x → wpList Try.prog ops Q rest (a.put o.dst (.tuple #[.int .i64 n, .bool true])) wr → wpList Try.prog ops Q (o :: rest) a wr := fun ops rest o a Q y z e1 e2 e3 e4 h => look_kn wr e1 y z e2 mB m K e3 hM x hwx e4 (by rw [hK]; exact h)
  clear hK
  conv => arg 2; whnf
  go_wp2_with (first
    | (at_lookup; refine hl _ _ _ _ _ _ _ rfl rfl rfl rfl ?_)
    | (at_mapUpdate; refine put_kn _ rfl _ _ _ rfl mB m K rfl hM hml x n hwx hwn rfl rfl ?_; intro w1 hM1 hg1)
    | go_in)
  first
    | exact ⟨⟨rfl, rfl, (by
      intro x9 hx9
      simp only [List.mem_cons, List.not_mem_nil, or_false] at hx9
      rcases hx9 with rfl | rfl | rfl | rfl | rfl | rfl | rfl | rfl | rfl
      all_goals first
        | rfl
        | exact congrArg some h10.symm
        | exact congrArg some h11.symm
        | exact congrArg some h13.symm
        | exact congrArg some h17.symm)⟩, hM1, hg1⟩
    | exact ⟨⟨rfl, rfl, (by
      intro x9 hx9
      simp only [List.mem_cons, List.not_mem_nil, or_false] at hx9
      rcases hx9 with rfl | rfl | rfl | rfl | rfl | rfl | rfl | rfl | rfl
      all_goals first
        | rfl
        | exact congrArg some h10.symm
        | exact congrArg some h11.symm
        | exact congrArg some h13.symm
        | exact congrArg some h17.symm)⟩, rfl, hM1, hg1⟩
    | exact ⟨rfl, rfl, (by
      intro x9 hx9
      simp only [List.mem_cons, List.not_mem_nil, or_false] at hx9
      rcases hx9 with rfl | rfl | rfl | rfl | rfl | rfl | rfl | rfl | rfl
      all_goals first
        | rfl
        | exact congrArg some h10.symm
        | exact congrArg some h11.symm
        | exact congrArg some h13.symm
        | exact congrArg some h17.symm)⟩
    | exact ⟨⟨rfl, rfl, (by
      intro x9 hx9
      simp only [List.mem_cons, List.not_mem_nil, or_false] at hx9
      rcases hx9 with rfl | rfl | rfl | rfl | rfl | rfl | rfl | rfl | rfl
      all_goals first
        | rfl
        | exact congrArg some h10.symm
        | exact congrArg some h11.symm
        | exact congrArg some h13.symm
        | exact congrArg some h17.symm)⟩, hg1⟩
    | exact ⟨⟨rfl, rfl, (by
      intro x9 hx9
      simp only [List.mem_cons, List.not_mem_nil, or_false] at hx9
      rcases hx9 with rfl | rfl | rfl | rfl | rfl | rfl | rfl | rfl | rfl
      all_goals first
        | rfl
        | exact congrArg some h10.symm
        | exact congrArg some h11.symm
        | exact congrArg some h13.symm
        | exact congrArg some h17.symm)⟩, hM1⟩
set_option maxRecDepth 100000 in
set_option maxHeartbeats 8000000 in
theorem to_b {wr : World} {K : Cd.Kn} {mB m i j gt len tc : Nat} {n x q : Int} (F G : Nat → Value) (Q0 : Exit → Act → World → Prop) (h10 : F 10 = .map (some mB)) (h11 : F 11 = .int .i64 (i : Nat)) (h13 : F 13 = .int .i64 n) (h17 : F 17 = .slice (some ⟨gt, 0, none⟩) len tc) (hM : KnM wr mB m K) (hm : m < 1000000) (hj : j < len) (hlen : len ≤ 2) (ct : wr.cell? ⟨gt, j, none⟩ = some (.int .i64 x)) (hne : gt ≠ mB) (hwx : (Lit.int .i64 x).wf = true) (hwn : (Lit.int .i64 n).wf = true) (hK : K x = none) (hx : (i : Int) < x) :
    Code.wp Try.prog ((firstLoop ((Try.f18.body.map (fun c => (loopsOf c).getD 1 .skip)).getD .skip)).getD .skip) (Exit.then (fun a' w' => FrL [0, 1, 2, 3, 4, 10, 11, 13, 17] F a' ∧ a'.tmps[18]? = some (.int .i64 ((j : Int) + 1)) ∧ KnM w' mB (m + 1) (K.put x n) ∧ wr.grownBy w' (some mB)) Q0) ⟨#[F 0, F 1, F 2, F 3, F 4, G 5, G 6, G 7, G 8, G 9, .map (some mB), .int .i64 (i : Nat), G 12, .int .i64 n, G 14, G 15, G 16, .slice (some ⟨gt, 0, none⟩) len tc, .int .i64 (j : Nat), G 19, G 20, G 21, G 22, G 23, G 24, G 25, G 26, G 27, G 28, G 29, G 30, G 31, G 32, G 33, G 34, G 35, G 36, G 37, G 38, G 39, G 40, G 41, G 42, G 43, G 44, G 45, G 46, G 47, G 48, G 49, G 50, G 51, G 52, G 53, G 54, G 55, G 56, G 57, G 58, G 59, G 60, G 61, G 62, G 63, G 64, G 65, G 66, G 67, G 68, G 69, G 70, G 71, G 72, G 73, G 74, G 75, G 76, G 77, G 78, G 79, G 80, G 81, G 82, G 83, G 84, G 85, G 86, G 87, G 88, G 89, G 90, G 91, G 92, G 93, G 94, G 95, G 96, G 97, G 98, G 99, G 100, G 101, G 102, G 103, G 104, G 105, G 106, G 107, G 108, G 109, G 110, G 111, G 112, G 113, G 114, G 115, G 116, G 117, G 118, G 119, G 120, G 121, G 122, G 123, G 124, G 125, G 126, G 127, G 128, G 129, G 130, G 131, G 132, G 133, G 134, G 135, G 136, G 137, G 138, G 139, G 140, G 141, G 142, G 143, G 144, G 145, G 146, G 147, G 148, G 149, G 150, G 151, G 152, G 153, G 154, G 155, G 156, G 157, G 158, G 159, G 160, G 161, G 162, G 163, G 164, G 165, G 166, G 167, G 168, G 169, G 170, G 171, G 172, G 173, G 174, G 175, G 176, G 177, G 178, G 179, G 180, G 181], []⟩ wr := by
  have hj0 : (0 : Int) ≤ (j : Int) := by omega
  have hj1 : (j : Int) < (len : Int) := by omega
  have hw : IntKind.i64.wrap ((j : Int) + 1) = (j : Int) + 1 := IntWalk.i64_in _ (by omega)
  have hml : m < maxLen := by unfold maxLen; omega
  have hl : ∀ (ops : Array Oper) (rest : List Oper) (o : Oper) (a : Act) (Q : Exit → Act → World → Prop) (y z : Operand), o.guard = none → o.op = Op.lookup 74 y z true → a.eval y = .map (some mB) → a.eval z = .int .i64 x → wpList Try.prog ops Q rest (a.put o.dst (.tuple #[.int .i64 0, .bool false])) wr → wpList Try.prog ops Q (o :: rest) a wr := fun ops rest o a Q y z e1 e2 e3 e4 h => look_kn wr e1 y z e2 mB m K e3 hM x hwx e4 (by rw [hK]; exact h)
  have hle : ¬ (x ≤ (i : Int)) := by omega
  clear hK
  conv => arg 2; whnf
  go_wp2_with (first
    | (at_lookup; refine hl _ _ _ _ _ _ _ rfl rfl rfl rfl ?_)
    | (at_mapUpdate; refine put_kn _ rfl _ _ _ rfl mB m K rfl hM hml x n hwx hwn rfl rfl ?_; intro w1 hM1 hg1)
    | go_in)
  first
    | exact ⟨⟨rfl, rfl, (by
      intro x9 hx9
      simp only [List.mem_cons, List.not_mem_nil, or_false] at hx9
      rcases hx9 with rfl | rfl | rfl | rfl | rfl | rfl | rfl | rfl | rfl
      all_goals first
        | rfl
        | exact congrArg some h10.symm
        | exact congrArg some h11.symm
        | exact congrArg some h13.symm
        | exact congrArg some h17.symm)⟩, hM1, hg1⟩
    | exact ⟨⟨rfl, rfl, (by
      intro x9 hx9
      simp only [List.mem_cons, List.not_mem_nil, or_false] at hx9
      rcases hx9 with rfl | rfl | rfl | rfl | rfl | rfl | rfl | rfl | rfl
      all_goals first
        | rfl
        | exact congrArg some h10.symm
        | exact congrArg some h11.symm
        | exact congrArg some h13.symm
        | exact congrArg some h17.symm)⟩, rfl, hM1, hg1⟩
    | exact ⟨rfl, rfl, (by
      intro x9 hx9
      simp only [List.mem_cons, List.not_mem_nil, or_false] at hx9
      rcases hx9 with rfl | rfl | rfl | rfl | rfl | rfl | rfl | rfl | rfl
      all_goals first
        | rfl
        | exact congrArg some h10.symm
        | exact congrArg some h11.symm
        | exact congrArg some h13.symm
        | exact congrArg some h17.symm)⟩
    | exact ⟨⟨rfl, rfl, (by
      intro x9 hx9
      simp only [List.mem_cons, List.not_mem_nil, or_false] at hx9
      rcases hx9 with rfl | rfl | rfl | rfl | rfl | rfl | rfl | rfl | rfl
      all_goals first
        | rfl
        | exact congrArg some h10.symm
        | exact congrArg some h11.symm
        | exact congrArg some h13.symm
        | exact congrArg some h17.symm)⟩, hg1⟩
    | exact ⟨⟨rfl, rfl, (by
      intro x9 hx9
      simp only [List.mem_cons, List.not_mem_nil, or_false] at hx9
      rcases hx9 with rfl | rfl | rfl | rfl | rfl | rfl | rfl | rfl | rfl
      all_goals first
        | rfl
        | exact congrArg some h10.symm
        | exact congrArg some h11.symm
        | exact congrArg some h13.symm
        | exact congrArg some h17.symm)⟩, hM1⟩
set_option maxRecDepth 100000 in
set_option maxHeartbeats 8000000 in
theorem to_c {wr : World} {K : Cd.Kn} {mB m i j gt len tc : Nat} {n x q : Int} (F G : Nat → Value) (Q0 : Exit → Act → World → Prop) (h10 : F 10 = .map (some mB)) (h11 : F 11 = .int .i64 (i : Nat)) (h13 : F 13 = .int .i64 n) (h17 : F 17 = .slice (some ⟨gt, 0, none⟩) len tc) (hM : KnM wr mB m K) (hm : m < 1000000) (hj : j < len) (hlen : len ≤ 2) (ct : wr.cell? ⟨gt, j, none⟩ = some (.int .i64 x)) (hne : gt ≠ mB) (hwx : (Lit.int .i64 x).wf = true) (hwn : (Lit.int .i64 n).wf = true) (hK : K x = some q) (hx : ¬ q = n) (hret : ∀ a', a'.defers = [] → a'.tmps[6]? = some (.int .i64 17) → a'.tmps[7]? = some (.int .i64 (i : Nat)) → Q0 .ret a' wr) :
    Code.wp Try.prog ((firstLoop ((Try.f18.body.map (fun c => (loopsOf c).getD 1 .skip)).getD .skip)).getD .skip) (Exit.then (fun _ _ => False) Q0) ⟨#[F 0, F 1, F 2, F 3, F 4, G 5, G 6, G 7, G 8, G 9, .map (some mB), .int .i64 (i : Nat), G 12, .int .i64 n, G 14, G 15, G 16, .slice (some ⟨gt, 0, none⟩) len tc, .int .i64 (j : Nat), G 19, G 20, G 21, G 22, G 23, G 24, G 25, G 26, G 27, G 28, G 29, G 30, G 31, G 32, G 33, G 34, G 35, G 36, G 37, G 38, G 39, G 40, G 41, G 42, G 43, G 44, G 45, G 46, G 47, G 48, G 49, G 50, G 51, G 52, G 53, G 54, G 55, G 56, G 57, G 58, G 59, G 60, G 61, G 62, G 63, G 64, G 65, G 66, G 67, G 68, G 69, G 70, G 71, G 72, G 73, G 74, G 75, G 76, G 77, G 78, G 79, G 80, G 81, G 82, G 83, G 84, G 85, G 86, G 87, G 88, G 89, G 90, G 91, G 92, G 93, G 94, G 95, G 96, G 97, G 98, G 99, G 100, G 101, G 102, G 103, G 104, G 105, G 106, G 107, G 108, G 109, G 110, G 111, G 112, G 113, G 114, G 115, G 116, G 117, G 118, G 119, G 120, G 121, G 122, G 123, G 124, G 125, G 126, G 127, G 128, G 129, G 130, G 131, G 132, G 133, G 134, G 135, G 136, G 137, G 138, G 139, G 140, G 141, G 142, G 143, G 144, G 145, G 146, G 147, G 148, G 149, G 150, G 151, G 152, G 153, G 154, G 155, G 156, G 157, G 158, G 159, G 160, G 161, G 162, G 163, G 164, G 165, G 166, G 167, G 168, G 169, G 170, G 171, G 172, G 173, G 174, G 175, G 176, G 177, G 178, G 179, G 180, G 181], []⟩ wr := by
  have hj0 : (0 : Int) ≤ (j : Int) := by omega
  have hj1 : (j : Int) < (len : Int) := by omega
  have hw : IntKind.i64.wrap ((j : Int) + 1) = (j : Int) + 1 := IntWalk.i64_in _ (by omega)
  have hml : m < maxLen := by unfold maxLen; omega
  have hl : ∀ (ops : Array Oper) (rest : List Oper) (o : Oper) (a : Act) (Q : Exit → Act → World → Prop) (y z : Operand), o.guard = none → o.op = Op.lookup 74 y z true → a.eval y = .map (some mB) → a.eval z = .int .i64 x → wpList Try.prog ops Q rest (a.put o.dst (.tuple #[.int .i64 q, .bool true])) wr → wpList Try.prog ops Q (o :: rest) a wr := fun ops rest o a Q y z e1 e2 e3 e4 h => look_kn wr e1 y z e2 mB m K e3 hM x hwx e4 (by rw [hK]; exact h)
  have hqb : (q == n) = false := by simpa using hx
  clear hK
  conv => arg 2; whnf
  go_wp2_with (first
    | (at_lookup; refine hl _ _ _ _ _ _ _ rfl rfl rfl rfl ?_)
    | go_in)
  exact hret _ rfl rfl rfl
set_option maxRecDepth 100000 in
set_option maxHeartbeats 8000000 in
theorem to_d {wr : World} {K : Cd.Kn} {mB m i j gt len tc : Nat} {n x q : Int} (F G : Nat → Value) (Q0 : Exit → Act → World → Prop) (h10 : F 10 = .map (some mB)) (h11 : F 11 = .int .i64 (i : Nat)) (h13 : F 13 = .int .i64 n) (h17 : F 17 = .slice (some ⟨gt, 0, none⟩) len tc) (hM : KnM wr mB m K) (hm : m < 1000000) (hj : j < len) (hlen : len ≤ 2) (ct : wr.cell? ⟨gt, j, none⟩ = some (.int .i64 x)) (hne : gt ≠ mB) (hwx : (Lit.int .i64 x).wf = true) (hwn : (Lit.int .i64 n).wf = true) (hK : K x = none) (hx : ¬ (i : Int) < x) (hret : ∀ a', a'.defers = [] → a'.tmps[6]? = some (.int .i64 17) → a'.tmps[7]? = some (.int .i64 (i : Nat)) → Q0 .ret a' wr) :
    Code.wp Try.prog ((firstLoop ((Try.f18.body.map (fun c => (loopsOf c).getD 1 .skip)).getD .skip)).getD .skip) (Exit.then (fun _ _ => False) Q0) ⟨#[F 0, F 1, F 2, F 3, F 4, G 5, G 6, G 7, G 8, G 9, .map (some mB), .int .i64 (i : Nat), G 12, .int .i64 n, G 14, G 15, G 16, .slice (some ⟨gt, 0, none⟩) len tc, .int .i64 (j : Nat), G 19, G 20, G 21, G 22, G 23, G 24, G 25, G 26, G 27, G 28, G 29, G 30, G 31, G 32, G 33, G 34, G 35, G 36, G 37, G 38, G 39, G 40, G 41, G 42, G 43, G 44, G 45, G 46, G 47, G 48, G 49, G 50, G 51, G 52, G 53, G 54, G 55, G 56, G 57, G 58, G 59, G 60, G 61, G 62, G 63, G 64, G 65, G 66, G 67, G 68, G 69, G 70, G 71, G 72, G 73, G 74, G 75, G 76, G 77, G 78, G 79, G 80, G 81, G 82, G 83, G 84, G 85, G 86, G 87, G 88, G 89, G 90, G 91, G 92, G 93, G 94, G 95, G 96, G 97, G 98, G 99, G 100, G 101, G 102, G 103, G 104, G 105, G 106, G 107, G 108, G 109, G 110, G 111, G 112, G 113, G 114, G 115, G 116, G 117, G 118, G 119, G 120, G 121, G 122, G 123, G 124, G 125, G 126, G 127, G 128, G 129, G 130, G 131, G 132, G 133, G 134, G 135, G 136, G 137, G 138, G 139, G 140, G 141, G 142, G 143, G 144, G 145, G 146, G 147, G 148, G 149, G 150, G 151, G 152, G 153, G 154, G 155, G 156, G 157, G 158, G 159, G 160, G 161, G 162, G 163, G 164, G 165, G 166, G 167, G 168, G 169, G 170, G 171, G 172, G 173, G 174, G 175, G 176, G 177, G 178, G 179, G 180, G 181], []⟩ wr := by
  have hj0 : (0 : Int) ≤ (j : Int) := by omega
  have hj1 : (j : Int) < (len : Int) := by omega
  have hw : IntKind.i64.wrap ((j : Int) + 1) = (j : Int) + 1 := IntWalk.i64_in _ (by omega)
  have hml : m < maxLen := by unfold maxLen; omega
  have hl : ∀ (ops : Array Oper) (rest : List Oper) (o : Oper) (a : Act) (Q : Exit → Act → World → Prop) (y z : Operand), o.guard = none → o.op = Op.lookup 74 y z true → a.eval y = .map (some mB) → a.eval z = .int .i64 x → wpList Try.prog ops Q rest (a.put o.dst (.tuple #[.int .i64 0, .bool false])) wr → wpList Try.prog ops Q (o :: rest) a wr := fun ops rest o a Q y z e1 e2 e3 e4 h => look_kn wr e1 y z e2 mB m K e3 hM x hwx e4 (by rw [hK]; exact h)
  have hle : x ≤ (i : Int) := by omega
  clear hK
  conv => arg 2; whnf
  go_wp2_with (first
    | (at_lookup; refine hl _ _ _ _ _ _ _ rfl rfl rfl rfl ?_)
    | go_in)
  exact hret _ rfl rfl rfl
end Go.Proofs.Ytkfjjkpphpakbaa
