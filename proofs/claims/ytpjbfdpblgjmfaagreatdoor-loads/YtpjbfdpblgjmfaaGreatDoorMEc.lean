/-
  The document's fun: the loop over the operands, whole.
  What is known, as a map in memory.
  The document's fun: a round of the loop over where one goes on.
  The document's fun: the loop over where one goes on.
-/
import Derived.Test.YtpjbfdpblgjmfaaGreatDoorEb
import Derived.Maps.OwnSet
import Derived.Maps.OwnOps
import Derived.Maps.Views
set_option linter.unusedVariables false
set_option linter.unusedSimpArgs false
namespace Go.Proofs.YtpjbfdpblgjmfaaGreatDoor
open Go.RowKit

set_option maxRecDepth 100000 in
set_option maxHeartbeats 8000000 in
theorem opd_exit {wr : World} {C : Cd.Code} {f : Cd.Fun} {vb vc vd : Value} {cB fB cv i : Nat} {va : Option Addr} {first : Bool} (F G : Nat → Value) (Q0 : Exit → Act → World → Prop) (J : Act → World → Prop) (h2 : F 2 = .bool first) (h3 : F 3 = .pointer (some ⟨cB, 0, none⟩)) (h4 : F 4 = .pointer (some ⟨fB, 0, none⟩))
    (hF : Fc C f vb vc vd (.slice va f.ins.length cv) cB fB wr) (hi : i = f.ins.length) (hexit : ∀ a', FrL [0, 1, 2, 3, 4] F a' → Q0 (.exit 0) a' wr) :
    Code.wp Tryz.prog ((Tryz.f38.body.map (fun c => (loopsOf c).getD 0 .skip)).getD .skip) (Exit.then J Q0) ⟨#[F 0, F 1, .bool first, .pointer (some ⟨cB, 0, none⟩), .pointer (some ⟨fB, 0, none⟩), G 5, G 6, G 7, .int .i64 (i : Nat), G 9, G 10, G 11, G 12, G 13, G 14, G 15, G 16, G 17, G 18, G 19, G 20, G 21, G 22, G 23, G 24, G 25, G 26, G 27, G 28, G 29, G 30, G 31, G 32, G 33, G 34, G 35, G 36, G 37, G 38, G 39, G 40, G 41, G 42, G 43, G 44, G 45, G 46, G 47, G 48, G 49, G 50, G 51, G 52, G 53, G 54, G 55, G 56, G 57, G 58, G 59, G 60, G 61, G 62, G 63, G 64, G 65, G 66, G 67, G 68, G 69, G 70, G 71, G 72, G 73, G 74, G 75, G 76, G 77, G 78, G 79, G 80, G 81, G 82, G 83, G 84, G 85, G 86, G 87, G 88, G 89, G 90, G 91, G 92, G 93, G 94, G 95, G 96, G 97, G 98, G 99, G 100, G 101, G 102, G 103, G 104, G 105, G 106, G 107, G 108, G 109, G 110, G 111, G 112, G 113, G 114, G 115, G 116, G 117, G 118, G 119, G 120, G 121, G 122, G 123, G 124, G 125, G 126, G 127, G 128, G 129, G 130, G 131, G 132, G 133, G 134, G 135, G 136, G 137, G 138, G 139, G 140, G 141, G 142, G 143, G 144, G 145, G 146, G 147, G 148, G 149, G 150, G 151, G 152, G 153, G 154, G 155, G 156, G 157, G 158, G 159, G 160, G 161, G 162, G 163, G 164, G 165, G 166, G 167, G 168, G 169, G 170, G 171, G 172, G 173, G 174, G 175, G 176, G 177, G 178, G 179, G 180, G 181], []⟩ wr := by
  obtain ⟨c0, c1, c2, c3, c4, c5, c6⟩ := hF.cells
  have hi1 : ¬ ((i : Int) < (f.ins.length : Int)) := by omega
  clear hF hi
  conv => arg 2; whnf
  go_wp2
  exact ⟨rfl, rfl, (by
      intro x9 hx9
      simp only [List.mem_cons, List.not_mem_nil, or_false] at hx9
      rcases hx9 with rfl | rfl | rfl | rfl | rfl
      all_goals first
        | rfl
        | exact congrArg some h2.symm
        | exact congrArg some h3.symm
        | exact congrArg some h4.symm)⟩
theorem below_trans {a b c : World} (h : Below a.heap.size a b) (k : Below b.heap.size b c) : Below a.heap.size a c := h.trans ⟨k.os, k.tape, k.output, k.size, fun i hi => k.block i (Nat.lt_of_lt_of_le hi h.size)⟩
theorem opd_loop {W : World} {C : Cd.Code} {f : Cd.Fun} {vb vc vd v : Value} {cB fB : Nat} {first : Bool} (F : Nat → Value) (Q0 : Exit → Act → World → Prop) (hQ0 : ∀ c a a' w, a.defers = a'.defers → Q0 (.panic c) a w → Q0 (.panic c) a' w) (h2 : F 2 = .bool first) (h3 : F 3 = .pointer (some ⟨cB, 0, none⟩)) (h4 : F 4 = .pointer (some ⟨fB, 0, none⟩))
    (hF : Fc C f vb vc vd v cB fB W) (hn : f.ins.length ≤ 65535) (a0 : Act) (hfr : FrL [0, 1, 2, 3, 4] F a0) (h8 : a0.tmps[8]? = some (.int .i64 0))
    (hret : ∀ a' w' e (i : Nat), a'.defers = [] → a'.tmps[6]? = some (.int .i64 e) → a'.tmps[7]? = some (.int .i64 (i : Nat)) → Below W.heap.size W w' → Cd.opdL C f first f.ins 0 = some (e, i) → Q0 .ret a' w')
    (hexit : ∀ a' w', FrL [0, 1, 2, 3, 4] F a' → Below W.heap.size W w' → (∀ x ∈ f.ins, Cd.opd C f first x = 0) → Q0 (.exit 0) a' w') : Code.wp Tryz.prog (Code.loop ((Tryz.f38.body.map (fun c => (loopsOf c).getD 0 .skip)).getD .skip)) Q0 a0 W := by
  obtain ⟨va, cv, hv, hcv, hrow⟩ := hF.im
  subst hv
  refine wp_loop (fun a w => ∃ i : Nat, i ≤ f.ins.length ∧ FrL [0, 1, 2, 3, 4] F a ∧ a.tmps[8]? = some (.int .i64 (i : Nat)) ∧ Below W.heap.size W w ∧ Cd.opdL C f first f.ins 0 = Cd.opdL C f first (f.ins.drop i) i) (fun a _ => f.ins.length - (intOf (a.tmps.getD 8 undef)).toNat) ⟨0, Nat.zero_le _, hfr, h8, Below.refl _ _, rfl⟩ ?_
  rintro a w ⟨i, hi, hf, hi8, hb, hrel⟩
  have hmu : (intOf (a.tmps.getD 8 undef)).toNat = i := by simp [Array.getD_eq_getD_getElem?, hi8, intOf]
  rw [hmu]
  obtain ⟨G, rfl, hG⟩ := act_open2 hf.sz hf.df
  have f0 : G 0 = F 0 := hG 0 _ (hf.k 0 (by simp))
  have f1 : G 1 = F 1 := hG 1 _ (hf.k 1 (by simp))
  have f2 : G 2 = F 2 := hG 2 _ (hf.k 2 (by simp))
  have f3 : G 3 = F 3 := hG 3 _ (hf.k 3 (by simp))
  have f4 : G 4 = F 4 := hG 4 _ (hf.k 4 (by simp))
  have f8 : G 8 = .int .i64 (i : Nat) := hG 8 _ hi8
  rw [h2] at f2
  rw [h3] at f3
  rw [h4] at f4
  rw [f0, f1, f2, f3, f4, f8]
  clear hG hf hi8
  have hFw := hF.keep hb
  by_cases e : i = f.ins.length
  · refine opd_exit F G Q0 _ h2 h3 h4 hFw e (fun a' hk => hexit a' w hk hb ?_)
    rw [e, List.drop_length] at hrel
    exact (Cd.opdL_none f.ins 0).1 hrel
  · have hlt : i < f.ins.length := by omega
    obtain ⟨x, hx⟩ : ∃ x, f.ins[i]? = some x := ⟨f.ins[i], by simp⟩
    have hdrop : f.ins.drop i = x :: f.ins.drop (i + 1) := by
      rw [List.drop_eq_getElem_cons hlt]
      congr 1
      exact (List.getElem?_eq_some_iff.1 hx).2
    rw [hdrop] at hrel
    obtain ⟨gv, kv, rfl, hcells⟩ := hrow (fun e2 => by rw [e2] at hlt; simp at hlt)
    have hc : ∀ i x, f.ins[i]? = some x → w.cell? ⟨gv, kv + i * 4, none⟩ = some (.int .i64 x.op) ∧ w.cell? ⟨gv, kv + i * 4 + 1, none⟩ = some (.int .i64 x.a) ∧ w.cell? ⟨gv, kv + i * 4 + 2, none⟩ = some (.int .i64 x.b) ∧ w.cell? ⟨gv, kv + i * 4 + 3, none⟩ = some (.int .i64 x.n) := fun i x hx => by
      obtain ⟨a0, a1, a2, a3⟩ := hcells i x hx
      exact ⟨kc hb a0, kc hb a1, kc hb a2, kc hb a3⟩
    by_cases ho : Cd.opd C f first x = 0
    · refine wp_mono (opd_round F G Q0 hQ0 h2 h3 h4 hFw hx hc hn ho) ?_
      intro e a' w' h
      have fin : (FrL [0, 1, 2, 3, 4] F a' ∧ a'.tmps[8]? = some (.int .i64 ((i : Int) + 1)) ∧ Below w.heap.size w w') → (∃ i : Nat, i ≤ f.ins.length ∧ FrL [0, 1, 2, 3, 4] F a' ∧ a'.tmps[8]? = some (.int .i64 (i : Nat)) ∧ Below W.heap.size W w' ∧ Cd.opdL C f first f.ins 0 = Cd.opdL C f first (f.ins.drop i) i) ∧ f.ins.length - (intOf (a'.tmps.getD 8 undef)).toNat < f.ins.length - i := by
        rintro ⟨b1, b2, b3⟩
        refine ⟨⟨i + 1, by omega, b1, by simpa using b2, below_trans hb b3, ?_⟩, ?_⟩
        · rw [hrel, Cd.opdL, if_pos ho]
        · simp only [Array.getD_eq_getD_getElem?, b2, Option.getD_some, intOf]
          omega
      cases e <;> first | exact fin h | exact h
    · refine wp_mono (opd_fault F G Q0 hQ0 h2 h3 h4 hFw hx hc hn ho (fun a' w' d1 d2 d3 d4 => hret a' w' _ i d1 d2 d3 (below_trans hb d4) (by rw [hrel, Cd.opdL, if_neg ho]))) ?_
      intro e a' w' h
      cases e <;> first | exact h.elim | exact h
end Go.Proofs.YtpjbfdpblgjmfaaGreatDoor

namespace Go.Proofs.YtpjbfdpblgjmfaaGreatDoor
open Go.RowKit Go.Maps Go.WideShapes

theorem Tryz.keyed3 : Keyed Tryz.prog 3 := int_keyed Tryz.underlying3
theorem Tryz.zero3 (w : World) : (zeroValue 3).run Tryz.prog w = .ok (.int .i64 0) w := by kernel_rfl
def KnM (w : World) (mB n : Nat) (K : Cd.Kn) : Prop := ∃ D : DataW Unit, w.ownsMap Tryz.prog 3 (plainElem Tryz.prog 3) mB n D ∧ ∀ a, (Lit.int .i64 a).wf = true → Maps.has D (.int .i64 a) = (K a).isSome ∧ D.atKey (.int .i64 a) (.lit (.int .i64 0)) = .lit (.int .i64 ((K a).getD 0))
theorem key3 {k : Int} (hk : (Lit.int .i64 k).wf = true) : keyOf Tryz.prog 3 (.int .i64 k) = some (.int .i64 k) := keyOf_int_mk Tryz.underlying3 hk
theorem KnM.kept {w w' : World} {mB n : Nat} {K : Cd.Kn} {row : Option Nat} (h : KnM w mB n K) (hg : w.grownBy w' row) (hne : some mB ≠ row) : KnM w' mB n K := by
  obtain ⟨D, h1, h2⟩ := h
  exact ⟨D, h1.kept hg hne, h2⟩
theorem KnM.drew {w : World} {mB n : Nat} {K : Cd.Kn} (h : KnM w mB n K) : KnM w.drew mB n K := by
  obtain ⟨D, h1, h2⟩ := h
  exact ⟨D, h1.drew, h2⟩
section
variable (w : World) {ops : Array Oper} {rest : List Oper} {o : Oper} {a : Act} {Q : Exit → Act → World → Prop}
theorem look_kn (hg : o.guard = none) (m x : Operand) (hop : o.op = Op.lookup 181 m x true) (mB n : Nat) (K : Cd.Kn) (hm : a.eval m = .map (some mB)) (h : KnM w mB n K) (k : Int) (hk : (Lit.int .i64 k).wf = true) (hx : a.eval x = .int .i64 k)
    (hK : wpList Tryz.prog ops Q rest (a.put o.dst (.tuple #[.int .i64 ((K k).getD 0), .bool (K k).isSome])) w) : wpList Tryz.prog ops Q (o :: rest) a w := by
  obtain ⟨D, h1, h2⟩ := h
  obtain ⟨e1, e2⟩ := h2 k hk
  refine wpList_lookup_own_ok_int w hg m x 181 hop 3 3 .i64 Tryz.keyed3 Tryz.underlying181 Tryz.underlying3 (Tryz.zero3 w) mB n D hm h1 _ (.int .i64 k) hx (key3 hk) ?_
  intro c hc _
  rw [e2] at hc
  have : (K k).getD 0 = c := by simpa using hc
  rw [← this, e1]
  exact hK
theorem put_kn (hg : o.guard = none) (m x y : Operand) (hop : o.op = Op.mapUpdate 181 m x y) (mB n : Nat) (K : Cd.Kn) (hm : a.eval m = .map (some mB)) (h : KnM w mB n K) (hn : n < maxLen) (k v : Int) (hk : (Lit.int .i64 k).wf = true) (hv : (Lit.int .i64 v).wf = true) (hx : a.eval x = .int .i64 k) (hy : a.eval y = .int .i64 v)
    (hK : ∀ w', KnM w' mB (n + 1) (K.put k v) → w.grownBy w' (some mB) → wpList Tryz.prog ops Q rest (a.put o.dst undef) w') : wpList Tryz.prog ops Q (o :: rest) a w := by
  obtain ⟨D, h1, h2⟩ := h
  refine wpList_mapUpdate_own w hg m x y 181 hop 3 3 Tryz.keyed3 Tryz.underlying181 (plainElem Tryz.prog 3) mB n D hm h1 hn _ _ (.int .i64 k) hx hy (key3 hk) (.lit (.int .i64 v)) [] (plainElem_int Tryz.underlying3 hv) ?_
  intro w' h3 h4
  refine hK w' ⟨_, h3, fun b hb => ?_⟩ h4
  by_cases e : b = k
  · subst e
    have hkl : WideAt.IsKeyLit (.int .i64 b) := by simp [WideAt.IsKeyLit]
    rw [has_put_same h1.isMap hkl, atKey_put_same h1.isMap hkl]
    simp [Cd.Kn.put]
  · have hne : Lit.int IntKind.i64 b ≠ .int .i64 k := fun e2 => e (by injection e2)
    rw [has_put_other hne, atKey_put_other hne]
    have := h2 b hb
    simpa [Cd.Kn.put, e] using this
end
end Go.Proofs.YtpjbfdpblgjmfaaGreatDoor

namespace Go.Proofs.YtpjbfdpblgjmfaaGreatDoor
open Go.RowKit Go.Maps

set_option maxRecDepth 100000 in
set_option maxHeartbeats 8000000 in
theorem to_a {wr : World} {K : Cd.Kn} {mB m i j gt len tc : Nat} {n x q : Int} (F G : Nat → Value) (Q0 : Exit → Act → World → Prop) (h10 : F 10 = .map (some mB)) (h11 : F 11 = .int .i64 (i : Nat)) (h13 : F 13 = .int .i64 n) (h17 : F 17 = .slice (some ⟨gt, 0, none⟩) len tc) (hM : KnM wr mB m K) (hm : m < 1000000) (hj : j < len) (hlen : len ≤ 2) (ct : wr.cell? ⟨gt, j, none⟩ = some (.int .i64 x)) (hne : gt ≠ mB) (hwx : (Lit.int .i64 x).wf = true) (hwn : (Lit.int .i64 n).wf = true) (hK : K x = some n) :
    Code.wp Tryz.prog ((firstLoop ((Tryz.f38.body.map (fun c => (loopsOf c).getD 1 .skip)).getD .skip)).getD .skip) (Exit.then (fun a' w' => FrL [0, 1, 2, 3, 4, 10, 11, 13, 17] F a' ∧ a'.tmps[18]? = some (.int .i64 ((j : Int) + 1)) ∧ KnM w' mB (m + 1) (K.put x n) ∧ wr.grownBy w' (some mB)) Q0) ⟨#[F 0, F 1, F 2, F 3, F 4, G 5, G 6, G 7, G 8, G 9, .map (some mB), .int .i64 (i : Nat), G 12, .int .i64 n, G 14, G 15, G 16, .slice (some ⟨gt, 0, none⟩) len tc, .int .i64 (j : Nat), G 19, G 20, G 21, G 22, G 23, G 24, G 25, G 26, G 27, G 28, G 29, G 30, G 31, G 32, G 33, G 34, G 35, G 36, G 37, G 38, G 39, G 40, G 41, G 42, G 43, G 44, G 45, G 46, G 47, G 48, G 49, G 50, G 51, G 52, G 53, G 54, G 55, G 56, G 57, G 58, G 59, G 60, G 61, G 62, G 63, G 64, G 65, G 66, G 67, G 68, G 69, G 70, G 71, G 72, G 73, G 74, G 75, G 76, G 77, G 78, G 79, G 80, G 81, G 82, G 83, G 84, G 85, G 86, G 87, G 88, G 89, G 90, G 91, G 92, G 93, G 94, G 95, G 96, G 97, G 98, G 99, G 100, G 101, G 102, G 103, G 104, G 105, G 106, G 107, G 108, G 109, G 110, G 111, G 112, G 113, G 114, G 115, G 116, G 117, G 118, G 119, G 120, G 121, G 122, G 123, G 124, G 125, G 126, G 127, G 128, G 129, G 130, G 131, G 132, G 133, G 134, G 135, G 136, G 137, G 138, G 139, G 140, G 141, G 142, G 143, G 144, G 145, G 146, G 147, G 148, G 149, G 150, G 151, G 152, G 153, G 154, G 155, G 156, G 157, G 158, G 159, G 160, G 161, G 162, G 163, G 164, G 165, G 166, G 167, G 168, G 169, G 170, G 171, G 172, G 173, G 174, G 175, G 176, G 177, G 178, G 179, G 180, G 181], []⟩ wr := by
  have hj0 : (0 : Int) ≤ (j : Int) := by omega
  have hj1 : (j : Int) < (len : Int) := by omega
  have hw : IntKind.i64.wrap ((j : Int) + 1) = (j : Int) + 1 := IntWalk.i64_in _ (by omega)
  have hml : m < maxLen := by unfold maxLen; omega
  have hl : ∀ (ops : Array Oper) (rest : List Oper) (o : Oper) (a : Act) (Q : Exit → Act → World → Prop) (y z : Operand), o.guard = none → o.op = Op.lookup 181 y z true → a.eval y = .map (some mB) → a.eval z = .int .i64 x → wpList Tryz.prog ops Q rest (a.put o.dst (.tuple #[.int .i64 n, .bool true])) wr → wpList Tryz.prog ops Q (o :: rest) a wr := fun ops rest o a Q y z e1 e2 e3 e4 h => look_kn wr e1 y z e2 mB m K e3 hM x hwx e4 (by rw [hK]; exact h)
  clear hK
  conv => arg 2; whnf
  go_wp2_with (first
    | (at_lookup; refine hl _ _ _ _ _ _ _ rfl rfl rfl rfl ?_)
    | (at_mapUpdate; refine put_kn _ rfl _ _ _ rfl mB m K rfl hM hml x n hwx hwn rfl rfl ?_; intro w1 hM1 hg1)
    | go_in)
  first
    | exact ⟨⟨rfl, rfl, (by
      intro x9 hx9
      simp only [List.mem_cons, List.not_mem_nil, or_false] at hx9
      rcases hx9 with rfl | rfl | rfl | rfl | rfl | rfl | rfl | rfl | rfl
      all_goals first
        | rfl
        | exact congrArg some h10.symm
        | exact congrArg some h11.symm
        | exact congrArg some h13.symm
        | exact congrArg some h17.symm)⟩, hM1, hg1⟩
    | exact ⟨⟨rfl, rfl, (by
      intro x9 hx9
      simp only [List.mem_cons, List.not_mem_nil, or_false] at hx9
      rcases hx9 with rfl | rfl | rfl | rfl | rfl | rfl | rfl | rfl | rfl
      all_goals first
        | rfl
        | exact congrArg some h10.symm
        | exact congrArg some h11.symm
        | exact congrArg some h13.symm
        | exact congrArg some h17.symm)⟩, rfl, hM1, hg1⟩
    | exact ⟨rfl, rfl, (by
      intro x9 hx9
      simp only [List.mem_cons, List.not_mem_nil, or_false] at hx9
      rcases hx9 with rfl | rfl | rfl | rfl | rfl | rfl | rfl | rfl | rfl
      all_goals first
        | rfl
        | exact congrArg some h10.symm
        | exact congrArg some h11.symm
        | exact congrArg some h13.symm
        | exact congrArg some h17.symm)⟩
    | exact ⟨⟨rfl, rfl, (by
      intro x9 hx9
      simp only [List.mem_cons, List.not_mem_nil, or_false] at hx9
      rcases hx9 with rfl | rfl | rfl | rfl | rfl | rfl | rfl | rfl | rfl
      all_goals first
        | rfl
        | exact congrArg some h10.symm
        | exact congrArg some h11.symm
        | exact congrArg some h13.symm
        | exact congrArg some h17.symm)⟩, hg1⟩
    | exact ⟨⟨rfl, rfl, (by
      intro x9 hx9
      simp only [List.mem_cons, List.not_mem_nil, or_false] at hx9
      rcases hx9 with rfl | rfl | rfl | rfl | rfl | rfl | rfl | rfl | rfl
      all_goals first
        | rfl
        | exact congrArg some h10.symm
        | exact congrArg some h11.symm
        | exact congrArg some h13.symm
        | exact congrArg some h17.symm)⟩, hM1⟩
set_option maxRecDepth 100000 in
set_option maxHeartbeats 8000000 in
theorem to_b {wr : World} {K : Cd.Kn} {mB m i j gt len tc : Nat} {n x q : Int} (F G : Nat → Value) (Q0 : Exit → Act → World → Prop) (h10 : F 10 = .map (some mB)) (h11 : F 11 = .int .i64 (i : Nat)) (h13 : F 13 = .int .i64 n) (h17 : F 17 = .slice (some ⟨gt, 0, none⟩) len tc) (hM : KnM wr mB m K) (hm : m < 1000000) (hj : j < len) (hlen : len ≤ 2) (ct : wr.cell? ⟨gt, j, none⟩ = some (.int .i64 x)) (hne : gt ≠ mB) (hwx : (Lit.int .i64 x).wf = true) (hwn : (Lit.int .i64 n).wf = true) (hK : K x = none) (hx : (i : Int) < x) :
    Code.wp Tryz.prog ((firstLoop ((Tryz.f38.body.map (fun c => (loopsOf c).getD 1 .skip)).getD .skip)).getD .skip) (Exit.then (fun a' w' => FrL [0, 1, 2, 3, 4, 10, 11, 13, 17] F a' ∧ a'.tmps[18]? = some (.int .i64 ((j : Int) + 1)) ∧ KnM w' mB (m + 1) (K.put x n) ∧ wr.grownBy w' (some mB)) Q0) ⟨#[F 0, F 1, F 2, F 3, F 4, G 5, G 6, G 7, G 8, G 9, .map (some mB), .int .i64 (i : Nat), G 12, .int .i64 n, G 14, G 15, G 16, .slice (some ⟨gt, 0, none⟩) len tc, .int .i64 (j : Nat), G 19, G 20, G 21, G 22, G 23, G 24, G 25, G 26, G 27, G 28, G 29, G 30, G 31, G 32, G 33, G 34, G 35, G 36, G 37, G 38, G 39, G 40, G 41, G 42, G 43, G 44, G 45, G 46, G 47, G 48, G 49, G 50, G 51, G 52, G 53, G 54, G 55, G 56, G 57, G 58, G 59, G 60, G 61, G 62, G 63, G 64, G 65, G 66, G 67, G 68, G 69, G 70, G 71, G 72, G 73, G 74, G 75, G 76, G 77, G 78, G 79, G 80, G 81, G 82, G 83, G 84, G 85, G 86, G 87, G 88, G 89, G 90, G 91, G 92, G 93, G 94, G 95, G 96, G 97, G 98, G 99, G 100, G 101, G 102, G 103, G 104, G 105, G 106, G 107, G 108, G 109, G 110, G 111, G 112, G 113, G 114, G 115, G 116, G 117, G 118, G 119, G 120, G 121, G 122, G 123, G 124, G 125, G 126, G 127, G 128, G 129, G 130, G 131, G 132, G 133, G 134, G 135, G 136, G 137, G 138, G 139, G 140, G 141, G 142, G 143, G 144, G 145, G 146, G 147, G 148, G 149, G 150, G 151, G 152, G 153, G 154, G 155, G 156, G 157, G 158, G 159, G 160, G 161, G 162, G 163, G 164, G 165, G 166, G 167, G 168, G 169, G 170, G 171, G 172, G 173, G 174, G 175, G 176, G 177, G 178, G 179, G 180, G 181], []⟩ wr := by
  have hj0 : (0 : Int) ≤ (j : Int) := by omega
  have hj1 : (j : Int) < (len : Int) := by omega
  have hw : IntKind.i64.wrap ((j : Int) + 1) = (j : Int) + 1 := IntWalk.i64_in _ (by omega)
  have hml : m < maxLen := by unfold maxLen; omega
  have hl : ∀ (ops : Array Oper) (rest : List Oper) (o : Oper) (a : Act) (Q : Exit → Act → World → Prop) (y z : Operand), o.guard = none → o.op = Op.lookup 181 y z true → a.eval y = .map (some mB) → a.eval z = .int .i64 x → wpList Tryz.prog ops Q rest (a.put o.dst (.tuple #[.int .i64 0, .bool false])) wr → wpList Tryz.prog ops Q (o :: rest) a wr := fun ops rest o a Q y z e1 e2 e3 e4 h => look_kn wr e1 y z e2 mB m K e3 hM x hwx e4 (by rw [hK]; exact h)
  have hle : ¬ (x ≤ (i : Int)) := by omega
  clear hK
  conv => arg 2; whnf
  go_wp2_with (first
    | (at_lookup; refine hl _ _ _ _ _ _ _ rfl rfl rfl rfl ?_)
    | (at_mapUpdate; refine put_kn _ rfl _ _ _ rfl mB m K rfl hM hml x n hwx hwn rfl rfl ?_; intro w1 hM1 hg1)
    | go_in)
  first
    | exact ⟨⟨rfl, rfl, (by
      intro x9 hx9
      simp only [List.mem_cons, List.not_mem_nil, or_false] at hx9
      rcases hx9 with rfl | rfl | rfl | rfl | rfl | rfl | rfl | rfl | rfl
      all_goals first
        | rfl
        | exact congrArg some h10.symm
        | exact congrArg some h11.symm
        | exact congrArg some h13.symm
        | exact congrArg some h17.symm)⟩, hM1, hg1⟩
    | exact ⟨⟨rfl, rfl, (by
      intro x9 hx9
      simp only [List.mem_cons, List.not_mem_nil, or_false] at hx9
      rcases hx9 with rfl | rfl | rfl | rfl | rfl | rfl | rfl | rfl | rfl
      all_goals first
        | rfl
        | exact congrArg some h10.symm
        | exact congrArg some h11.symm
        | exact congrArg some h13.symm
        | exact congrArg some h17.symm)⟩, rfl, hM1, hg1⟩
    | exact ⟨rfl, rfl, (by
      intro x9 hx9
      simp only [List.mem_cons, List.not_mem_nil, or_false] at hx9
      rcases hx9 with rfl | rfl | rfl | rfl | rfl | rfl | rfl | rfl | rfl
      all_goals first
        | rfl
        | exact congrArg some h10.symm
        | exact congrArg some h11.symm
        | exact congrArg some h13.symm
        | exact congrArg some h17.symm)⟩
    | exact ⟨⟨rfl, rfl, (by
      intro x9 hx9
      simp only [List.mem_cons, List.not_mem_nil, or_false] at hx9
      rcases hx9 with rfl | rfl | rfl | rfl | rfl | rfl | rfl | rfl | rfl
      all_goals first
        | rfl
        | exact congrArg some h10.symm
        | exact congrArg some h11.symm
        | exact congrArg some h13.symm
        | exact congrArg some h17.symm)⟩, hg1⟩
    | exact ⟨⟨rfl, rfl, (by
      intro x9 hx9
      simp only [List.mem_cons, List.not_mem_nil, or_false] at hx9
      rcases hx9 with rfl | rfl | rfl | rfl | rfl | rfl | rfl | rfl | rfl
      all_goals first
        | rfl
        | exact congrArg some h10.symm
        | exact congrArg some h11.symm
        | exact congrArg some h13.symm
        | exact congrArg some h17.symm)⟩, hM1⟩
set_option maxRecDepth 100000 in
set_option maxHeartbeats 8000000 in
theorem to_c {wr : World} {K : Cd.Kn} {mB m i j gt len tc : Nat} {n x q : Int} (F G : Nat → Value) (Q0 : Exit → Act → World → Prop) (h10 : F 10 = .map (some mB)) (h11 : F 11 = .int .i64 (i : Nat)) (h13 : F 13 = .int .i64 n) (h17 : F 17 = .slice (some ⟨gt, 0, none⟩) len tc) (hM : KnM wr mB m K) (hm : m < 1000000) (hj : j < len) (hlen : len ≤ 2) (ct : wr.cell? ⟨gt, j, none⟩ = some (.int .i64 x)) (hne : gt ≠ mB) (hwx : (Lit.int .i64 x).wf = true) (hwn : (Lit.int .i64 n).wf = true) (hK : K x = some q) (hx : ¬ q = n) (hret : ∀ a', a'.defers = [] → a'.tmps[6]? = some (.int .i64 17) → a'.tmps[7]? = some (.int .i64 (i : Nat)) → Q0 .ret a' wr) :
    Code.wp Tryz.prog ((firstLoop ((Tryz.f38.body.map (fun c => (loopsOf c).getD 1 .skip)).getD .skip)).getD .skip) (Exit.then (fun _ _ => False) Q0) ⟨#[F 0, F 1, F 2, F 3, F 4, G 5, G 6, G 7, G 8, G 9, .map (some mB), .int .i64 (i : Nat), G 12, .int .i64 n, G 14, G 15, G 16, .slice (some ⟨gt, 0, none⟩) len tc, .int .i64 (j : Nat), G 19, G 20, G 21, G 22, G 23, G 24, G 25, G 26, G 27, G 28, G 29, G 30, G 31, G 32, G 33, G 34, G 35, G 36, G 37, G 38, G 39, G 40, G 41, G 42, G 43, G 44, G 45, G 46, G 47, G 48, G 49, G 50, G 51, G 52, G 53, G 54, G 55, G 56, G 57, G 58, G 59, G 60, G 61, G 62, G 63, G 64, G 65, G 66, G 67, G 68, G 69, G 70, G 71, G 72, G 73, G 74, G 75, G 76, G 77, G 78, G 79, G 80, G 81, G 82, G 83, G 84, G 85, G 86, G 87, G 88, G 89, G 90, G 91, G 92, G 93, G 94, G 95, G 96, G 97, G 98, G 99, G 100, G 101, G 102, G 103, G 104, G 105, G 106, G 107, G 108, G 109, G 110, G 111, G 112, G 113, G 114, G 115, G 116, G 117, G 118, G 119, G 120, G 121, G 122, G 123, G 124, G 125, G 126, G 127, G 128, G 129, G 130, G 131, G 132, G 133, G 134, G 135, G 136, G 137, G 138, G 139, G 140, G 141, G 142, G 143, G 144, G 145, G 146, G 147, G 148, G 149, G 150, G 151, G 152, G 153, G 154, G 155, G 156, G 157, G 158, G 159, G 160, G 161, G 162, G 163, G 164, G 165, G 166, G 167, G 168, G 169, G 170, G 171, G 172, G 173, G 174, G 175, G 176, G 177, G 178, G 179, G 180, G 181], []⟩ wr := by
  have hj0 : (0 : Int) ≤ (j : Int) := by omega
  have hj1 : (j : Int) < (len : Int) := by omega
  have hw : IntKind.i64.wrap ((j : Int) + 1) = (j : Int) + 1 := IntWalk.i64_in _ (by omega)
  have hml : m < maxLen := by unfold maxLen; omega
  have hl : ∀ (ops : Array Oper) (rest : List Oper) (o : Oper) (a : Act) (Q : Exit → Act → World → Prop) (y z : Operand), o.guard = none → o.op = Op.lookup 181 y z true → a.eval y = .map (some mB) → a.eval z = .int .i64 x → wpList Tryz.prog ops Q rest (a.put o.dst (.tuple #[.int .i64 q, .bool true])) wr → wpList Tryz.prog ops Q (o :: rest) a wr := fun ops rest o a Q y z e1 e2 e3 e4 h => look_kn wr e1 y z e2 mB m K e3 hM x hwx e4 (by rw [hK]; exact h)
  have hqb : (q == n) = false := by simpa using hx
  clear hK
  conv => arg 2; whnf
  go_wp2_with (first
    | (at_lookup; refine hl _ _ _ _ _ _ _ rfl rfl rfl rfl ?_)
    | go_in)
  exact hret _ rfl rfl rfl
set_option maxRecDepth 100000 in
set_option maxHeartbeats 8000000 in
theorem to_d {wr : World} {K : Cd.Kn} {mB m i j gt len tc : Nat} {n x q : Int} (F G : Nat → Value) (Q0 : Exit → Act → World → Prop) (h10 : F 10 = .map (some mB)) (h11 : F 11 = .int .i64 (i : Nat)) (h13 : F 13 = .int .i64 n) (h17 : F 17 = .slice (some ⟨gt, 0, none⟩) len tc) (hM : KnM wr mB m K) (hm : m < 1000000) (hj : j < len) (hlen : len ≤ 2) (ct : wr.cell? ⟨gt, j, none⟩ = some (.int .i64 x)) (hne : gt ≠ mB) (hwx : (Lit.int .i64 x).wf = true) (hwn : (Lit.int .i64 n).wf = true) (hK : K x = none) (hx : ¬ (i : Int) < x) (hret : ∀ a', a'.defers = [] → a'.tmps[6]? = some (.int .i64 17) → a'.tmps[7]? = some (.int .i64 (i : Nat)) → Q0 .ret a' wr) :
    Code.wp Tryz.prog ((firstLoop ((Tryz.f38.body.map (fun c => (loopsOf c).getD 1 .skip)).getD .skip)).getD .skip) (Exit.then (fun _ _ => False) Q0) ⟨#[F 0, F 1, F 2, F 3, F 4, G 5, G 6, G 7, G 8, G 9, .map (some mB), .int .i64 (i : Nat), G 12, .int .i64 n, G 14, G 15, G 16, .slice (some ⟨gt, 0, none⟩) len tc, .int .i64 (j : Nat), G 19, G 20, G 21, G 22, G 23, G 24, G 25, G 26, G 27, G 28, G 29, G 30, G 31, G 32, G 33, G 34, G 35, G 36, G 37, G 38, G 39, G 40, G 41, G 42, G 43, G 44, G 45, G 46, G 47, G 48, G 49, G 50, G 51, G 52, G 53, G 54, G 55, G 56, G 57, G 58, G 59, G 60, G 61, G 62, G 63, G 64, G 65, G 66, G 67, G 68, G 69, G 70, G 71, G 72, G 73, G 74, G 75, G 76, G 77, G 78, G 79, G 80, G 81, G 82, G 83, G 84, G 85, G 86, G 87, G 88, G 89, G 90, G 91, G 92, G 93, G 94, G 95, G 96, G 97, G 98, G 99, G 100, G 101, G 102, G 103, G 104, G 105, G 106, G 107, G 108, G 109, G 110, G 111, G 112, G 113, G 114, G 115, G 116, G 117, G 118, G 119, G 120, G 121, G 122, G 123, G 124, G 125, G 126, G 127, G 128, G 129, G 130, G 131, G 132, G 133, G 134, G 135, G 136, G 137, G 138, G 139, G 140, G 141, G 142, G 143, G 144, G 145, G 146, G 147, G 148, G 149, G 150, G 151, G 152, G 153, G 154, G 155, G 156, G 157, G 158, G 159, G 160, G 161, G 162, G 163, G 164, G 165, G 166, G 167, G 168, G 169, G 170, G 171, G 172, G 173, G 174, G 175, G 176, G 177, G 178, G 179, G 180, G 181], []⟩ wr := by
  have hj0 : (0 : Int) ≤ (j : Int) := by omega
  have hj1 : (j : Int) < (len : Int) := by omega
  have hw : IntKind.i64.wrap ((j : Int) + 1) = (j : Int) + 1 := IntWalk.i64_in _ (by omega)
  have hml : m < maxLen := by unfold maxLen; omega
  have hl : ∀ (ops : Array Oper) (rest : List Oper) (o : Oper) (a : Act) (Q : Exit → Act → World → Prop) (y z : Operand), o.guard = none → o.op = Op.lookup 181 y z true → a.eval y = .map (some mB) → a.eval z = .int .i64 x → wpList Tryz.prog ops Q rest (a.put o.dst (.tuple #[.int .i64 0, .bool false])) wr → wpList Tryz.prog ops Q (o :: rest) a wr := fun ops rest o a Q y z e1 e2 e3 e4 h => look_kn wr e1 y z e2 mB m K e3 hM x hwx e4 (by rw [hK]; exact h)
  have hle : x ≤ (i : Int) := by omega
  clear hK
  conv => arg 2; whnf
  go_wp2_with (first
    | (at_lookup; refine hl _ _ _ _ _ _ _ rfl rfl rfl rfl ?_)
    | go_in)
  exact hret _ rfl rfl rfl
end Go.Proofs.YtpjbfdpblgjmfaaGreatDoor

namespace Go.Proofs.YtpjbfdpblgjmfaaGreatDoor
open Go.RowKit Go.Maps

set_option maxRecDepth 100000 in
set_option maxHeartbeats 8000000 in
theorem to_exit {wr : World} {mB i j len tc : Nat} {ta : Option Addr} {n : Int} (F G : Nat → Value) (Q0 : Exit → Act → World → Prop) (J : Act → World → Prop) (h10 : F 10 = .map (some mB)) (h11 : F 11 = .int .i64 (i : Nat)) (h13 : F 13 = .int .i64 n) (h17 : F 17 = .slice ta len tc) (hj : j = len) (hexit : ∀ a', FrL [0, 1, 2, 3, 4, 10, 11, 13, 17] F a' → Q0 (.exit 4) a' wr) :
    Code.wp Tryz.prog ((firstLoop ((Tryz.f38.body.map (fun c => (loopsOf c).getD 1 .skip)).getD .skip)).getD .skip) (Exit.then J Q0) ⟨#[F 0, F 1, F 2, F 3, F 4, G 5, G 6, G 7, G 8, G 9, .map (some mB), .int .i64 (i : Nat), G 12, .int .i64 n, G 14, G 15, G 16, .slice ta len tc, .int .i64 (j : Nat), G 19, G 20, G 21, G 22, G 23, G 24, G 25, G 26, G 27, G 28, G 29, G 30, G 31, G 32, G 33, G 34, G 35, G 36, G 37, G 38, G 39, G 40, G 41, G 42, G 43, G 44, G 45, G 46, G 47, G 48, G 49, G 50, G 51, G 52, G 53, G 54, G 55, G 56, G 57, G 58, G 59, G 60, G 61, G 62, G 63, G 64, G 65, G 66, G 67, G 68, G 69, G 70, G 71, G 72, G 73, G 74, G 75, G 76, G 77, G 78, G 79, G 80, G 81, G 82, G 83, G 84, G 85, G 86, G 87, G 88, G 89, G 90, G 91, G 92, G 93, G 94, G 95, G 96, G 97, G 98, G 99, G 100, G 101, G 102, G 103, G 104, G 105, G 106, G 107, G 108, G 109, G 110, G 111, G 112, G 113, G 114, G 115, G 116, G 117, G 118, G 119, G 120, G 121, G 122, G 123, G 124, G 125, G 126, G 127, G 128, G 129, G 130, G 131, G 132, G 133, G 134, G 135, G 136, G 137, G 138, G 139, G 140, G 141, G 142, G 143, G 144, G 145, G 146, G 147, G 148, G 149, G 150, G 151, G 152, G 153, G 154, G 155, G 156, G 157, G 158, G 159, G 160, G 161, G 162, G 163, G 164, G 165, G 166, G 167, G 168, G 169, G 170, G 171, G 172, G 173, G 174, G 175, G 176, G 177, G 178, G 179, G 180, G 181], []⟩ wr := by
  have hj1 : ¬ ((j : Int) < (len : Int)) := by omega
  clear hj
  conv => arg 2; whnf
  go_wp2
  exact ⟨rfl, rfl, (by
      intro x9 hx9
      simp only [List.mem_cons, List.not_mem_nil, or_false] at hx9
      rcases hx9 with rfl | rfl | rfl | rfl | rfl | rfl | rfl | rfl | rfl
      all_goals first
        | rfl
        | exact congrArg some h10.symm
        | exact congrArg some h11.symm
        | exact congrArg some h13.symm
        | exact congrArg some h17.symm)⟩
theorem grown_tr {a b c : World} {o : Option Nat} (h : a.grownBy b o) (k : b.grownBy c o) : a.grownBy c o := grown_trans h k
theorem to_loop {W : World} {K : Cd.Kn} {mB m i gt tc : Nat} {ta : Option Addr} {n : Int} {ts : List Int} (F : Nat → Value) (Q0 : Exit → Act → World → Prop) (h10 : F 10 = .map (some mB)) (h11 : F 11 = .int .i64 (i : Nat)) (h13 : F 13 = .int .i64 n) (h17 : F 17 = .slice ta ts.length tc) (hM : KnM W mB m K) (hm : m + 2 < 1000000) (hlen : ts.length ≤ 2) (hta : ts ≠ [] → ta = some ⟨gt, 0, none⟩) (ct : ∀ j x, ts[j]? = some x → W.cell? ⟨gt, j, none⟩ = some (.int .i64 x)) (hne : gt ≠ mB) (hwx : ∀ x ∈ ts, (Lit.int .i64 x).wf = true) (hwn : (Lit.int .i64 n).wf = true) (a0 : Act) (hfr : FrL [0, 1, 2, 3, 4, 10, 11, 13, 17] F a0) (h18 : a0.tmps[18]? = some (.int .i64 0))
    (hret : ∀ a' w', a'.defers = [] → a'.tmps[6]? = some (.int .i64 17) → a'.tmps[7]? = some (.int .i64 (i : Nat)) → W.grownBy w' (some mB) → Cd.flow1 i n ts K = none → Q0 .ret a' w')
    (hexit : ∀ a' w' K' m', FrL [0, 1, 2, 3, 4, 10, 11, 13, 17] F a' → Cd.flow1 i n ts K = some K' → m' ≤ m + 2 → KnM w' mB m' K' → W.grownBy w' (some mB) → Q0 (.exit 4) a' w') : Code.wp Tryz.prog (Code.loop ((firstLoop ((Tryz.f38.body.map (fun c => (loopsOf c).getD 1 .skip)).getD .skip)).getD .skip)) Q0 a0 W := by
  refine wp_loop (fun a w => ∃ (j : Nat) (K' : Cd.Kn), j ≤ ts.length ∧ FrL [0, 1, 2, 3, 4, 10, 11, 13, 17] F a ∧ a.tmps[18]? = some (.int .i64 (j : Nat)) ∧ KnM w mB (m + j) K' ∧ W.grownBy w (some mB) ∧ Cd.flow1 i n ts K = Cd.flow1 i n (ts.drop j) K') (fun a _ => ts.length - (intOf (a.tmps.getD 18 undef)).toNat) ⟨0, K, Nat.zero_le _, hfr, h18, hM, grown_refl _ _, rfl⟩ ?_
  rintro a w ⟨j, K', hj, hf, hj8, hMj, hg, hrel⟩
  have hmu : (intOf (a.tmps.getD 18 undef)).toNat = j := by simp [Array.getD_eq_getD_getElem?, hj8, intOf]
  rw [hmu]
  obtain ⟨G, rfl, hG⟩ := act_open2 hf.sz hf.df
  have f0 : G 0 = F 0 := hG 0 _ (hf.k 0 (by simp))
  have f1 : G 1 = F 1 := hG 1 _ (hf.k 1 (by simp))
  have f2 : G 2 = F 2 := hG 2 _ (hf.k 2 (by simp))
  have f3 : G 3 = F 3 := hG 3 _ (hf.k 3 (by simp))
  have f4 : G 4 = F 4 := hG 4 _ (hf.k 4 (by simp))
  have f10 : G 10 = F 10 := hG 10 _ (hf.k 10 (by simp))
  have f11 : G 11 = F 11 := hG 11 _ (hf.k 11 (by simp))
  have f13 : G 13 = F 13 := hG 13 _ (hf.k 13 (by simp))
  have f17 : G 17 = F 17 := hG 17 _ (hf.k 17 (by simp))
  have f18 : G 18 = .int .i64 (j : Nat) := hG 18 _ hj8
  rw [h10] at f10
  rw [h11] at f11
  rw [h13] at f13
  rw [h17] at f17
  rw [f0, f1, f2, f3, f4, f10, f11, f13, f17, f18]
  clear hG hf hj8
  by_cases e : j = ts.length
  · refine to_exit F G Q0 _ h10 h11 h13 h17 e (fun a' hk => hexit a' w K' (m + j) hk ?_ (by omega) hMj hg)
    rw [hrel, e, List.drop_length]
    rfl
  · have hlt : j < ts.length := by omega
    obtain ⟨x, hx⟩ : ∃ x, ts[j]? = some x := ⟨ts[j], by simp⟩
    have hdrop : ts.drop j = x :: ts.drop (j + 1) := by
      rw [List.drop_eq_getElem_cons hlt]
      congr 1
      exact (List.getElem?_eq_some_iff.1 hx).2
    rw [hdrop] at hrel
    have hta2 := hta (fun e2 => by rw [e2] at hlt; simp at hlt)
    subst hta2
    have cx : w.cell? ⟨gt, j, none⟩ = some (.int .i64 x) := grown_cell hg hne (ct j x hx)
    have hwx1 := hwx x (List.mem_of_getElem? hx)
    have fin : Cd.flow1 i n ts K = Cd.flow1 i n (ts.drop (j + 1)) (K'.put x n) → ∀ a' w', (FrL [0, 1, 2, 3, 4, 10, 11, 13, 17] F a' ∧ a'.tmps[18]? = some (.int .i64 ((j : Int) + 1)) ∧ KnM w' mB (m + j + 1) (K'.put x n) ∧ w.grownBy w' (some mB)) → (∃ (j : Nat) (K' : Cd.Kn), j ≤ ts.length ∧ FrL [0, 1, 2, 3, 4, 10, 11, 13, 17] F a' ∧ a'.tmps[18]? = some (.int .i64 (j : Nat)) ∧ KnM w' mB (m + j) K' ∧ W.grownBy w' (some mB) ∧ Cd.flow1 i n ts K = Cd.flow1 i n (ts.drop j) K') ∧ ts.length - (intOf (a'.tmps.getD 18 undef)).toNat < ts.length - j := by
      rintro hr a' w' ⟨b1, b2, b3, b4⟩
      refine ⟨⟨j + 1, K'.put x n, by omega, b1, by simpa using b2, b3, grown_trans hg b4, hr⟩, ?_⟩
      simp only [Array.getD_eq_getD_getElem?, b2, Option.getD_some, intOf]
      omega
    cases hK : K' x with
    | some q =>
      by_cases hq : q = n
      · subst hq
        have hr : Cd.flow1 i q ts K = Cd.flow1 i q (ts.drop (j + 1)) (K'.put x q) := by rw [hrel, Cd.flow1, hK]; simp
        refine wp_mono (to_a (q := 0) F G Q0 h10 h11 h13 h17 hMj (by omega) hlt hlen cx hne hwx1 hwn hK) ?_
        intro e a' w' h
        cases e <;> first | exact fin hr a' w' h | exact h
      · refine wp_mono (to_c F G Q0 h10 h11 h13 h17 hMj (by omega) hlt hlen cx hne hwx1 hwn hK hq (fun a' d1 d2 d3 => hret a' w d1 d2 d3 hg (by rw [hrel, Cd.flow1, hK]; simp [hq]))) ?_
        intro e a' w' h
        cases e <;> first | exact h.elim | exact h
    | none =>
      by_cases hq : (i : Int) < x
      · have hr : Cd.flow1 i n ts K = Cd.flow1 i n (ts.drop (j + 1)) (K'.put x n) := by rw [hrel, Cd.flow1, hK]; simp [show ¬ x ≤ (i : Int) by omega]
        refine wp_mono (to_b (q := 0) F G Q0 h10 h11 h13 h17 hMj (by omega) hlt hlen cx hne hwx1 hwn hK hq) ?_
        intro e a' w' h
        cases e <;> first | exact fin hr a' w' h | exact h
      · refine wp_mono (to_d (q := 0) F G Q0 h10 h11 h13 h17 hMj (by omega) hlt hlen cx hne hwx1 hwn hK hq (fun a' d1 d2 d3 => hret a' w d1 d2 d3 hg (by rw [hrel, Cd.flow1, hK]; simp [show x ≤ (i : Int) by omega]))) ?_
        intro e a' w' h
        cases e <;> first | exact h.elim | exact h
end Go.Proofs.YtpjbfdpblgjmfaaGreatDoor
