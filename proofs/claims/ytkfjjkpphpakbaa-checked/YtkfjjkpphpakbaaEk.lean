/-
  The document's fun: the loop over the instructions, its end.
-/
import Derived.Test.YtkfjjkpphpakbaaEj
set_option linter.unusedVariables false
set_option linter.unusedSimpArgs false
namespace Go.Proofs.Ytkfjjkpphpakbaa
open Go.RowKit Go.Maps

set_option maxRecDepth 100000 in
set_option maxHeartbeats 8000000 in
theorem flow_exit {wr : World} {C : Cd.Code} {f : Cd.Fun} {vb vc vd : Value} {cB fB cv i mB : Nat} {va : Option Addr} (F G : Nat → Value) (Q0 : Exit → Act → World → Prop) (J : Act → World → Prop) (h3 : F 3 = .pointer (some ⟨cB, 0, none⟩)) (h4 : F 4 = .pointer (some ⟨fB, 0, none⟩)) (h10 : F 10 = .map (some mB)) (hF : Fc C f vb vc vd (.slice va f.ins.length cv) cB fB wr) (hi : i = f.ins.length) (hexit : ∀ a', FrL [0, 1, 2, 3, 4, 10] F a' → Q0 (.exit 2) a' wr) :
    Code.wp Try.prog ((Try.f18.body.map (fun c => (loopsOf c).getD 1 .skip)).getD .skip) (Exit.then J Q0) ⟨#[F 0, F 1, F 2, .pointer (some ⟨cB, 0, none⟩), .pointer (some ⟨fB, 0, none⟩), G 5, G 6, G 7, G 8, G 9, .map (some mB), .int .i64 (i : Nat), G 12, G 13, G 14, G 15, G 16, G 17, G 18, G 19, G 20, G 21, G 22, G 23, G 24, G 25, G 26, G 27, G 28, G 29, G 30, G 31, G 32, G 33, G 34, G 35, G 36, G 37, G 38, G 39, G 40, G 41, G 42, G 43, G 44, G 45, G 46, G 47, G 48, G 49, G 50, G 51, G 52, G 53, G 54, G 55, G 56, G 57, G 58, G 59, G 60, G 61, G 62, G 63, G 64, G 65, G 66, G 67, G 68, G 69, G 70, G 71, G 72, G 73, G 74, G 75, G 76, G 77, G 78, G 79, G 80, G 81, G 82, G 83, G 84, G 85, G 86, G 87, G 88, G 89, G 90, G 91, G 92, G 93, G 94, G 95, G 96, G 97, G 98, G 99, G 100, G 101, G 102, G 103, G 104, G 105, G 106, G 107, G 108, G 109, G 110, G 111, G 112, G 113, G 114, G 115, G 116, G 117, G 118, G 119, G 120, G 121, G 122, G 123, G 124, G 125, G 126, G 127, G 128, G 129, G 130, G 131, G 132, G 133, G 134, G 135, G 136, G 137, G 138, G 139, G 140, G 141, G 142, G 143, G 144, G 145, G 146, G 147, G 148, G 149, G 150, G 151, G 152, G 153, G 154, G 155, G 156, G 157, G 158, G 159, G 160, G 161, G 162, G 163, G 164, G 165, G 166, G 167, G 168, G 169, G 170, G 171, G 172, G 173, G 174, G 175, G 176, G 177, G 178, G 179, G 180, G 181], []⟩ wr := by
  have hj1 : ¬ ((i : Int) < (f.ins.length : Int)) := by omega
  obtain ⟨c0, c1, c2, c3, c4, c5, c6⟩ := hF.cells
  clear hi hF
  conv => arg 2; whnf
  go_wp2
  exact ⟨rfl, rfl, (by
      intro x9 hx9
      simp only [List.mem_cons, List.not_mem_nil, or_false] at hx9
      rcases hx9 with rfl | rfl | rfl | rfl | rfl | rfl
      all_goals first
        | rfl
        | exact congrArg some h3.symm
        | exact congrArg some h4.symm
        | exact congrArg some h10.symm)⟩
theorem flow1_vals {i : Nat} {n : Int} : ∀ (ts : List Int) (K K' : Cd.Kn), Cd.flow1 i n ts K = some K' → ∀ a v, K' a = some v → v = n ∨ K a = some v := by
  intro ts
  induction ts with
  | nil => intro K K' h a v hv; simp [Cd.flow1] at h; subst h; exact .inr hv
  | cons t ts ih =>
    intro K K' h a v hv
    have key : Cd.flow1 i n ts (K.put t n) = some K' := by
      unfold Cd.flow1 at h
      split at h <;> split at h <;> first | exact h | cases h
    rcases ih _ _ key a v hv with e | e
    · exact .inl e
    · unfold Cd.Kn.put at e
      split at e
      · exact .inl (Option.some.inj e).symm
      · exact .inr e
end Go.Proofs.Ytkfjjkpphpakbaa
