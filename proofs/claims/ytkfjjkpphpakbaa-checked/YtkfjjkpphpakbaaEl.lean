/-
  The document's fun: the loop over the instructions, as a whole.
-/
import Derived.Test.YtkfjjkpphpakbaaEk
set_option linter.unusedVariables false
set_option linter.unusedSimpArgs false
namespace Go.Proofs.Ytkfjjkpphpakbaa
open Go.RowKit Go.Maps

theorem below_grow {w0 w w' : World} {mB : Nat} (h : Below w0.heap.size w0 w) (hg : w.grownBy w' (some mB)) (hm : w0.heap.size ≤ mB) : Below w0.heap.size w0 w' :=
  ⟨hg.os.trans h.os, hg.tape.trans h.tape, hg.output.trans h.output, Nat.le_trans h.size hg.size, fun k hk => (hg.block k (Nat.lt_of_lt_of_le hk h.size) (by simp; omega)).trans (h.block k hk)⟩
theorem flow_loop {W0 W : World} {C : Cd.Code} {f : Cd.Fun} {vb vc vd : Value} {cB fB gv kv cv mB m : Nat} {va : Option Addr} {K : Cd.Kn} (F : Nat → Value) (Q0 : Exit → Act → World → Prop) (h3 : F 3 = .pointer (some ⟨cB, 0, none⟩)) (h4 : F 4 = .pointer (some ⟨fB, 0, none⟩)) (h10 : F 10 = .map (some mB))
    (hF : Fc C f vb vc vd (.slice va f.ins.length cv) cB fB W0) (hva : f.ins ≠ [] → va = some ⟨gv, kv, none⟩) (hc : ∀ i x, f.ins[i]? = some x → W0.cell? ⟨gv, kv + i * 4, none⟩ = some (.int .i64 x.op) ∧ W0.cell? ⟨gv, kv + i * 4 + 1, none⟩ = some (.int .i64 x.a) ∧ W0.cell? ⟨gv, kv + i * 4 + 2, none⟩ = some (.int .i64 x.b) ∧ W0.cell? ⟨gv, kv + i * 4 + 3, none⟩ = some (.int .i64 x.n)) (hn : f.ins.length ≤ 65535) (hW : Below W0.heap.size W0 W) (hmB : W0.heap.size ≤ mB) (hM : KnM W mB m K) (hm : m ≤ 2) (hKv : ∀ a v, K a = some v → 0 ≤ v ∧ v ≤ 4000)
    (hT : ∀ x ∈ f.ins, ∀ w', Below W0.heap.size W0 w' → Calls Try.prog 30 #[codeV2 C vb vc vd, insV2 x] w' fun e w2 => e = .returned (.tuple #[.int .i64 (Cd.takes C x).1, .int .i64 (Cd.takes C x).2]) ∧ Below w'.heap.size w' w2)
    (htk : ∀ x ∈ f.ins, (0 ≤ (Cd.takes C x).1 ∧ (Cd.takes C x).1 ≤ 100000) ∧ 0 ≤ (Cd.takes C x).2 ∧ (Cd.takes C x).2 ≤ 1) (hwa : ∀ x ∈ f.ins, (Lit.int .i64 x.a).wf = true)
    (a0 : Act) (hfr : FrL [0, 1, 2, 3, 4, 10] F a0) (h11 : a0.tmps[11]? = some (.int .i64 0))
    (hret : ∀ a' w' (i : Nat) K', a'.defers = [] → a'.tmps[6]? = some (.int .i64 17) → a'.tmps[7]? = some (.int .i64 (i : Nat)) → Below W0.heap.size W0 w' → Cd.flowL C f.ins 0 K = (some i, K') → Q0 .ret a' w')
    (hexit : ∀ a' w' K' m', FrL [0, 1, 2, 3, 4, 10] F a' → Cd.flowL C f.ins 0 K = (none, K') → KnM w' mB m' K' → Below W0.heap.size W0 w' → Q0 (.exit 2) a' w') : Code.wp Try.prog (Code.loop ((Try.f18.body.map (fun c => (loopsOf c).getD 1 .skip)).getD .skip)) Q0 a0 W := by
  refine wp_loop (fun a w => ∃ (i : Nat) (K' : Cd.Kn) (m' : Nat), i ≤ f.ins.length ∧ FrL [0, 1, 2, 3, 4, 10] F a ∧ a.tmps[11]? = some (.int .i64 (i : Nat)) ∧ KnM w mB m' K' ∧ m' ≤ 2 + 2 * i ∧ Below W0.heap.size W0 w ∧ (∀ b v, K' b = some v → 0 ≤ v ∧ v ≤ 4000) ∧ Cd.flowL C f.ins 0 K = Cd.flowL C (f.ins.drop i) i K') (fun a _ => f.ins.length - (intOf (a.tmps.getD 11 undef)).toNat) ⟨0, K, m, Nat.zero_le _, hfr, h11, hM, by omega, hW, hKv, rfl⟩ ?_
  rintro a w ⟨i, K', m', hi, hf, hi11, hMi, hmi, hb, hv, hrel⟩
  have hmu : (intOf (a.tmps.getD 11 undef)).toNat = i := by simp [Array.getD_eq_getD_getElem?, hi11, intOf]
  rw [hmu]
  obtain ⟨G, rfl, hG⟩ := act_open2 hf.sz hf.df
  have f0 : G 0 = F 0 := hG 0 _ (hf.k 0 (by simp))
  have f1 : G 1 = F 1 := hG 1 _ (hf.k 1 (by simp))
  have f2 : G 2 = F 2 := hG 2 _ (hf.k 2 (by simp))
  have f3 : G 3 = F 3 := hG 3 _ (hf.k 3 (by simp))
  have f4 : G 4 = F 4 := hG 4 _ (hf.k 4 (by simp))
  have f10 : G 10 = F 10 := hG 10 _ (hf.k 10 (by simp))
  have f11 : G 11 = .int .i64 (i : Nat) := hG 11 _ hi11
  rw [h3] at f3
  rw [h4] at f4
  rw [h10] at f10
  rw [f0, f1, f2, f3, f4, f10, f11]
  clear hG hf hi11
  by_cases e : i = f.ins.length
  · refine flow_exit F G Q0 _ h3 h4 h10 (hF.keep hb) e (fun a' hk => hexit a' w K' m' hk ?_ hMi hb)
    rw [hrel, e, List.drop_length]
    rfl
  · have hlt : i < f.ins.length := by omega
    obtain rfl : va = some ⟨gv, kv, none⟩ := hva (fun e0 => by rw [e0] at hlt; simp at hlt)
    obtain ⟨x, hx⟩ : ∃ x, f.ins[i]? = some x := ⟨f.ins[i], by simp⟩
    have hxm : x ∈ f.ins := List.mem_of_getElem? hx
    have hdrop : f.ins.drop i = x :: f.ins.drop (i + 1) := by
      rw [List.drop_eq_getElem_cons hlt]
      congr 1
      exact (List.getElem?_eq_some_iff.1 hx).2
    rw [hdrop] at hrel
    have hcx : w.cell? ⟨gv, kv + i * 4, none⟩ = some (.int .i64 x.op) ∧ w.cell? ⟨gv, kv + i * 4 + 1, none⟩ = some (.int .i64 x.a) ∧ w.cell? ⟨gv, kv + i * 4 + 2, none⟩ = some (.int .i64 x.b) ∧ w.cell? ⟨gv, kv + i * 4 + 3, none⟩ = some (.int .i64 x.n) := by
      obtain ⟨q0, q1, q2, q3⟩ := hc i x hx
      exact ⟨kc hb q0, kc hb q1, kc hb q2, kc hb q3⟩
    have hTx : ∀ w', Below w.heap.size w w' → Calls Try.prog 30 #[codeV2 C vb vc vd, insV2 x] w' fun e w2 => e = .returned (.tuple #[.int .i64 (Cd.takes C x).1, .int .i64 (Cd.takes C x).2]) ∧ Below w'.heap.size w' w2 := fun w' h => hT x hxm w' (below_trans hb h)
    obtain ⟨ht1, ht2⟩ := htk x hxm
    cases hK : K' i with
    | none =>
      refine wp_mono (flow_unknown (n := 0) (tk := 0) (pt := 0) F G Q0 h3 h4 h10 (hF.keep hb) hx hcx hn hMi hK (fun a' w' d1 d2 d3 d4 => hret a' w' i K' d1 d2 d3 (below_trans hb d4) (by rw [hrel, Cd.flowL, hK]))) ?_
      intro e a' w' h
      cases e <;> first | exact h.elim | exact h
    | some n =>
      have hnv := hv _ _ hK
      have bad : ((Cd.takes C x).1 > n ∨ ((x.op = 17 ∨ x.op = 16) ∧ (Cd.takes C x).1 ≠ n)) → ∀ a' w', a'.defers = [] → a'.tmps[6]? = some (.int .i64 17) → a'.tmps[7]? = some (.int .i64 (i : Nat)) → Below w.heap.size w w' → Q0 .ret a' w' := fun hq a' w' d1 d2 d3 d4 => hret a' w' i K' d1 d2 d3 (below_trans hb d4) (by rw [hrel, Cd.flowL, hK]; simp only; rw [if_pos hq])
      have off : ∀ {J : Act → World → Prop} {P : Act → World → Prop}, (∀ a' w', P a' w' → J a' w') → ∀ {c : Code} {a : Act} {w : World}, Code.wp Try.prog c (Exit.then P Q0) a w → Code.wp Try.prog c (Exit.then J Q0) a w := by
        intro J P hPJ c a w h
        refine wp_mono h ?_
        intro e a' w' h
        cases e <;> first | exact hPJ a' w' h | exact h
      by_cases b1 : n < (Cd.takes C x).1
      · exact off (fun _ _ h => h.elim) (flow_more F G Q0 h3 h4 h10 (hF.keep hb) hx hcx hn hMi hTx hnv ht1 ht2 hK b1 (bad (.inl b1)))
      by_cases b2 : x.op = 17 ∧ ¬ (Cd.takes C x).1 = n
      · exact off (fun _ _ h => h.elim) (flow_ret17 F G Q0 h3 h4 h10 (hF.keep hb) hx hcx hn hMi hTx hnv ht1 ht2 hK b1 b2.1 b2.2 (bad (.inr ⟨.inl b2.1, b2.2⟩)))
      by_cases b3 : x.op = 16 ∧ ¬ (Cd.takes C x).1 = n
      · exact off (fun _ _ h => h.elim) (flow_ret16 F G Q0 h3 h4 h10 (hF.keep hb) hx hcx hn hMi hTx hnv ht1 ht2 hK b1 b3.1 b3.2 (bad (.inr ⟨.inr b3.1, b3.2⟩)))
      have hno : ¬ ((Cd.takes C x).1 > n ∨ ((x.op = 17 ∨ x.op = 16) ∧ (Cd.takes C x).1 ≠ n)) := by
        rintro (h | ⟨h | h, h2⟩)
        · exact b1 h
        · exact b2 ⟨h, h2⟩
        · exact b3 ⟨h, h2⟩
      by_cases b4 : 4000 < n - (Cd.takes C x).1 + (Cd.takes C x).2
      · have o17 : ¬ x.op = 17 := fun h => b2 ⟨h, by omega⟩
        have o16 : ¬ x.op = 16 := fun h => b3 ⟨h, by omega⟩
        exact off (fun _ _ h => h.elim) (flow_big F G Q0 h3 h4 h10 (hF.keep hb) hx hcx hn hMi hTx hnv ht1 ht2 hK b1 o17 o16 b4 (fun a' w' d1 d2 d3 d4 => hret a' w' i K' d1 d2 d3 (below_trans hb d4) (by rw [hrel, Cd.flowL, hK]; simp only; rw [if_neg hno, if_pos b4])))
      have hstep : Cd.flowL C f.ins 0 K = match Cd.flow1 i (n - (Cd.takes C x).1 + (Cd.takes C x).2) (Cd.goes x i) K' with
          | none => (some i, K')
          | some K2 => Cd.flowL C (f.ins.drop (i + 1)) (i + 1) K2 := by
        rw [hrel, Cd.flowL, hK]
        simp only
        rw [if_neg hno, if_neg b4]
        cases Cd.flow1 i (n - (Cd.takes C x).1 + (Cd.takes C x).2) (Cd.goes x i) K' <;> rfl
      have hr2 : ∀ ts, Cd.goes x i = ts → ∀ a' w', a'.defers = [] → a'.tmps[6]? = some (.int .i64 17) → a'.tmps[7]? = some (.int .i64 (i : Nat)) → w.grownBy w' (some mB) → Cd.flow1 i (n - (Cd.takes C x).1 + (Cd.takes C x).2) ts K' = none → Q0 .ret a' w' := by
        intro ts hts a' w' d1 d2 d3 d4 d5
        subst hts
        exact hret a' w' i K' d1 d2 d3 (below_grow hb d4 hmB) (by rw [hstep, d5])
      have fin : ∀ ts, Cd.goes x i = ts → ∀ a' w', (∃ K2 m2, Cd.flow1 i (n - (Cd.takes C x).1 + (Cd.takes C x).2) ts K' = some K2 ∧ m2 ≤ m' + 2 ∧ FrL [0, 1, 2, 3, 4, 10] F a' ∧ a'.tmps[11]? = some (.int .i64 ((i : Int) + 1)) ∧ KnM w' mB m2 K2 ∧ w.grownBy w' (some mB)) → ((fun a w => ∃ (i : Nat) (K' : Cd.Kn) (m' : Nat), i ≤ f.ins.length ∧ FrL [0, 1, 2, 3, 4, 10] F a ∧ a.tmps[11]? = some (.int .i64 (i : Nat)) ∧ KnM w mB m' K' ∧ m' ≤ 2 + 2 * i ∧ Below W0.heap.size W0 w ∧ (∀ b v, K' b = some v → 0 ≤ v ∧ v ≤ 4000) ∧ Cd.flowL C f.ins 0 K = Cd.flowL C (f.ins.drop i) i K') a' w' ∧ f.ins.length - (intOf (a'.tmps.getD 11 undef)).toNat < f.ins.length - i) := by
        rintro ts hts a' w' ⟨K2, m2, p1, p2, p3, p4, p5, p6⟩
        subst hts
        refine ⟨⟨i + 1, K2, m2, by omega, p3, by simpa using p4, p5, by omega, below_grow hb p6 hmB, ?_, by rw [hstep, p1]⟩, ?_⟩
        · intro b v hbv
          rcases flow1_vals _ _ _ p1 b v hbv with e2 | e2
          · omega
          · exact hv b v e2
        · simp only [Array.getD_eq_getD_getElem?, p4, Option.getD_some, intOf]
          omega
      have hm2 : m' + 2 < 1000000 := by omega
      have hwx := hwa x hxm
      by_cases o17 : x.op = 17
      · have g : Cd.goes x i = [] := by simp [Cd.goes, o17]
        exact off (fin _ g) (flow_on_r17 F G Q0 h3 h4 h10 (hF.keep hb) hx hcx hn hMi hTx hnv ht1 ht2 hK b1 b4 o17 (Decidable.byContradiction fun h => b2 ⟨o17, h⟩) hm2 hwx (hr2 _ g))
      by_cases o16 : x.op = 16
      · have g : Cd.goes x i = [] := by simp [Cd.goes, o16]
        exact off (fin _ g) (flow_on_r16 F G Q0 h3 h4 h10 (hF.keep hb) hx hcx hn hMi hTx hnv ht1 ht2 hK b1 b4 o16 (Decidable.byContradiction fun h => b3 ⟨o16, h⟩) hm2 hwx (hr2 _ g))
      by_cases o18 : x.op = 18
      · have g : Cd.goes x i = [x.a] := by simp [Cd.goes, o18]
        exact off (fin _ g) (flow_on_jump F G Q0 h3 h4 h10 (hF.keep hb) hx hcx hn hMi hTx hnv ht1 ht2 hK b1 b4 o18 hm2 hwx (hr2 _ g))
      by_cases o19 : x.op = 19
      · have g : Cd.goes x i = [x.a, (i : Int) + 1] := by simp [Cd.goes, o19]
        exact off (fin _ g) (flow_on_unless F G Q0 h3 h4 h10 (hF.keep hb) hx hcx hn hMi hTx hnv ht1 ht2 hK b1 b4 o19 hm2 hwx (hr2 _ g))
      · have g : Cd.goes x i = [(i : Int) + 1] := by simp [Cd.goes, o16, o17, o18, o19]
        exact off (fin _ g) (flow_on_one F G Q0 h3 h4 h10 (hF.keep hb) hx hcx hn hMi hTx hnv ht1 ht2 hK b1 b4 o17 o16 o18 o19 hm2 hwx (hr2 _ g))
end Go.Proofs.Ytkfjjkpphpakbaa
