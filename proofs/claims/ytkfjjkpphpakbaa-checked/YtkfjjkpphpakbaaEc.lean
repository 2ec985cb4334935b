/-
  The document's fun: the loop over the operands, whole.
-/
import Derived.Test.YtkfjjkpphpakbaaEb
set_option linter.unusedVariables false
set_option linter.unusedSimpArgs false
namespace Go.Proofs.Ytkfjjkpphpakbaa
open Go.RowKit

set_option maxRecDepth 100000 in
set_option maxHeartbeats 8000000 in
theorem opd_exit {wr : World} {C : Cd.Code} {f : Cd.Fun} {vb vc vd : Value} {cB fB cv i : Nat} {va : Option Addr} {first : Bool} (F G : Nat → Value) (Q0 : Exit → Act → World → Prop) (J : Act → World → Prop) (h2 : F 2 = .bool first) (h3 : F 3 = .pointer (some ⟨cB, 0, none⟩)) (h4 : F 4 = .pointer (some ⟨fB, 0, none⟩))
    (hF : Fc C f vb vc vd (.slice va f.ins.length cv) cB fB wr) (hi : i = f.ins.length) (hexit : ∀ a', FrL [0, 1, 2, 3, 4] F a' → Q0 (.exit 0) a' wr) :
    Code.wp Try.prog ((Try.f18.body.map (fun c => (loopsOf c).getD 0 .skip)).getD .skip) (Exit.then J Q0) ⟨#[F 0, F 1, .bool first, .pointer (some ⟨cB, 0, none⟩), .pointer (some ⟨fB, 0, none⟩), G 5, G 6, G 7, .int .i64 (i : Nat), G 9, G 10, G 11, G 12, G 13, G 14, G 15, G 16, G 17, G 18, G 19, G 20, G 21, G 22, G 23, G 24, G 25, G 26, G 27, G 28, G 29, G 30, G 31, G 32, G 33, G 34, G 35, G 36, G 37, G 38, G 39, G 40, G 41, G 42, G 43, G 44, G 45, G 46, G 47, G 48, G 49, G 50, G 51, G 52, G 53, G 54, G 55, G 56, G 57, G 58, G 59, G 60, G 61, G 62, G 63, G 64, G 65, G 66, G 67, G 68, G 69, G 70, G 71, G 72, G 73, G 74, G 75, G 76, G 77, G 78, G 79, G 80, G 81, G 82, G 83, G 84, G 85, G 86, G 87, G 88, G 89, G 90, G 91, G 92, G 93, G 94, G 95, G 96, G 97, G 98, G 99, G 100, G 101, G 102, G 103, G 104, G 105, G 106, G 107, G 108, G 109, G 110, G 111, G 112, G 113, G 114, G 115, G 116, G 117, G 118, G 119, G 120, G 121, G 122, G 123, G 124, G 125, G 126, G 127, G 128, G 129, G 130, G 131, G 132, G 133, G 134, G 135, G 136, G 137, G 138, G 139, G 140, G 141, G 142, G 143, G 144, G 145, G 146, G 147, G 148, G 149, G 150, G 151, G 152, G 153, G 154, G 155, G 156, G 157, G 158, G 159, G 160, G 161, G 162, G 163, G 164, G 165, G 166, G 167, G 168, G 169, G 170, G 171, G 172, G 173, G 174, G 175, G 176, G 177, G 178, G 179, G 180, G 181], []⟩ wr := by
  obtain ⟨c0, c1, c2, c3, c4, c5, c6⟩ := hF.cells
  have hi1 : ¬ ((i : Int) < (f.ins.length : Int)) := by omega
  clear hF hi
  conv => arg 2; whnf
  go_wp2
  exact ⟨rfl, rfl, (by
      intro x9 hx9
      simp only [List.mem_cons, List.not_mem_nil, or_false] at hx9
      rcases hx9 with rfl | rfl | rfl | rfl | rfl
      all_goals first
        | rfl
        | exact congrArg some h2.symm
        | exact congrArg some h3.symm
        | exact congrArg some h4.symm)⟩
theorem below_trans {a b c : World} (h : Below a.heap.size a b) (k : Below b.heap.size b c) : Below a.heap.size a c := h.trans ⟨k.os, k.tape, k.output, k.size, fun i hi => k.block i (Nat.lt_of_lt_of_le hi h.size)⟩
theorem opd_loop {W : World} {C : Cd.Code} {f : Cd.Fun} {vb vc vd v : Value} {cB fB : Nat} {first : Bool} (F : Nat → Value) (Q0 : Exit → Act → World → Prop) (hQ0 : ∀ c a a' w, a.defers = a'.defers → Q0 (.panic c) a w → Q0 (.panic c) a' w) (h2 : F 2 = .bool first) (h3 : F 3 = .pointer (some ⟨cB, 0, none⟩)) (h4 : F 4 = .pointer (some ⟨fB, 0, none⟩))
    (hF : Fc C f vb vc vd v cB fB W) (hn : f.ins.length ≤ 65535) (a0 : Act) (hfr : FrL [0, 1, 2, 3, 4] F a0) (h8 : a0.tmps[8]? = some (.int .i64 0))
    (hret : ∀ a' w' e (i : Nat), a'.defers = [] → a'.tmps[6]? = some (.int .i64 e) → a'.tmps[7]? = some (.int .i64 (i : Nat)) → Below W.heap.size W w' → Cd.opdL C f first f.ins 0 = some (e, i) → Q0 .ret a' w')
    (hexit : ∀ a' w', FrL [0, 1, 2, 3, 4] F a' → Below W.heap.size W w' → (∀ x ∈ f.ins, Cd.opd C f first x = 0) → Q0 (.exit 0) a' w') : Code.wp Try.prog (Code.loop ((Try.f18.body.map (fun c => (loopsOf c).getD 0 .skip)).getD .skip)) Q0 a0 W := by
  obtain ⟨va, cv, hv, hcv, hrow⟩ := hF.im
  subst hv
  refine wp_loop (fun a w => ∃ i : Nat, i ≤ f.ins.length ∧ FrL [0, 1, 2, 3, 4] F a ∧ a.tmps[8]? = some (.int .i64 (i : Nat)) ∧ Below W.heap.size W w ∧ Cd.opdL C f first f.ins 0 = Cd.opdL C f first (f.ins.drop i) i) (fun a _ => f.ins.length - (intOf (a.tmps.getD 8 undef)).toNat) ⟨0, Nat.zero_le _, hfr, h8, Below.refl _ _, rfl⟩ ?_
  rintro a w ⟨i, hi, hf, hi8, hb, hrel⟩
  have hmu : (intOf (a.tmps.getD 8 undef)).toNat = i := by simp [Array.getD_eq_getD_getElem?, hi8, intOf]
  rw [hmu]
  obtain ⟨G, rfl, hG⟩ := act_open2 hf.sz hf.df
  have f0 : G 0 = F 0 := hG 0 _ (hf.k 0 (by simp))
  have f1 : G 1 = F 1 := hG 1 _ (hf.k 1 (by simp))
  have f2 : G 2 = F 2 := hG 2 _ (hf.k 2 (by simp))
  have f3 : G 3 = F 3 := hG 3 _ (hf.k 3 (by simp))
  have f4 : G 4 = F 4 := hG 4 _ (hf.k 4 (by simp))
  have f8 : G 8 = .int .i64 (i : Nat) := hG 8 _ hi8
  rw [h2] at f2
  rw [h3] at f3
  rw [h4] at f4
  rw [f0, f1, f2, f3, f4, f8]
  clear hG hf hi8
  have hFw := hF.keep hb
  by_cases e : i = f.ins.length
  · refine opd_exit F G Q0 _ h2 h3 h4 hFw e (fun a' hk => hexit a' w hk hb ?_)
    rw [e, List.drop_length] at hrel
    exact (Cd.opdL_none f.ins 0).1 hrel
  · have hlt : i < f.ins.length := by omega
    obtain ⟨x, hx⟩ : ∃ x, f.ins[i]? = some x := ⟨f.ins[i], by simp⟩
    have hdrop : f.ins.drop i = x :: f.ins.drop (i + 1) := by
      rw [List.drop_eq_getElem_cons hlt]
      congr 1
      exact (List.getElem?_eq_some_iff.1 hx).2
    rw [hdrop] at hrel
    obtain ⟨gv, kv, rfl, hcells⟩ := hrow (fun e2 => by rw [e2] at hlt; simp at hlt)
    have hc : ∀ i x, f.ins[i]? = some x → w.cell? ⟨gv, kv + i * 4, none⟩ = some (.int .i64 x.op) ∧ w.cell? ⟨gv, kv + i * 4 + 1, none⟩ = some (.int .i64 x.a) ∧ w.cell? ⟨gv, kv + i * 4 + 2, none⟩ = some (.int .i64 x.b) ∧ w.cell? ⟨gv, kv + i * 4 + 3, none⟩ = some (.int .i64 x.n) := fun i x hx => by
      obtain ⟨a0, a1, a2, a3⟩ := hcells i x hx
      exact ⟨kc hb a0, kc hb a1, kc hb a2, kc hb a3⟩
    by_cases ho : Cd.opd C f first x = 0
    · refine wp_mono (opd_round F G Q0 hQ0 h2 h3 h4 hFw hx hc hn ho) ?_
      intro e a' w' h
      have fin : (FrL [0, 1, 2, 3, 4] F a' ∧ a'.tmps[8]? = some (.int .i64 ((i : Int) + 1)) ∧ Below w.heap.size w w') → (∃ i : Nat, i ≤ f.ins.length ∧ FrL [0, 1, 2, 3, 4] F a' ∧ a'.tmps[8]? = some (.int .i64 (i : Nat)) ∧ Below W.heap.size W w' ∧ Cd.opdL C f first f.ins 0 = Cd.opdL C f first (f.ins.drop i) i) ∧ f.ins.length - (intOf (a'.tmps.getD 8 undef)).toNat < f.ins.length - i := by
        rintro ⟨b1, b2, b3⟩
        refine ⟨⟨i + 1, by omega, b1, by simpa using b2, below_trans hb b3, ?_⟩, ?_⟩
        · rw [hrel, Cd.opdL, if_pos ho]
        · simp only [Array.getD_eq_getD_getElem?, b2, Option.getD_some, intOf]
          omega
      cases e <;> first | exact fin h | exact h
    · refine wp_mono (opd_fault F G Q0 hQ0 h2 h3 h4 hFw hx hc hn ho (fun a' w' d1 d2 d3 d4 => hret a' w' _ i d1 d2 d3 (below_trans hb d4) (by rw [hrel, Cd.opdL, if_neg ho]))) ?_
      intro e a' w' h
      cases e <;> first | exact h.elim | exact h
end Go.Proofs.Ytkfjjkpphpakbaa
