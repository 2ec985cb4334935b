/-
  The program's reader: an instruction.
-/
import Derived.Test.YticmoofjjikefaaDoorMRf
import Derived.Test.YticmoofjjikefaaDoorPb
set_option linter.unusedVariables false
set_option linter.unusedSimpArgs false
namespace Go.Proofs.YticmoofjjikefaaDoor
open Go.RowKit Go.Lib

/-- The three operands, one after the other. -/
def insA (s : List UInt8) (p : Nat) (op : Int) : Nat × Cd.Rd := Cd.Rd.num s (Cd.wa op) (Cd.Rd.at_ p)
def insBb (s : List UInt8) (p : Nat) (op : Int) : Nat × Cd.Rd := (insA s p op).2.num s (Cd.wb op)
def insN (s : List UInt8) (p : Nat) (op : Int) : Nat × Cd.Rd := (insBb s p op).2.num s (Cd.wn op)
theorem num_zero (s : List UInt8) (p : Nat) (hp : p ≤ s.length) : Cd.Rd.num s 0 (Cd.Rd.at_ p) = (0, Cd.Rd.at_ p) := by
  unfold Cd.Rd.num
  rw [if_pos (show (Cd.Rd.at_ p).has s 0 from ⟨rfl, hp⟩)]
  simp [Cd.num, Cd.Rd.at_]
theorem ins_chain (s : List UInt8) (p : Nat) (op : Nat) (hp : p ≤ s.length) :
    (if Cd.form op = 8 then ((⟨op, 0, 0, Cd.sgn ((Cd.Rd.at_ p).num s 8).1⟩ : Cd.Ins), ((Cd.Rd.at_ p).num s 8).2)
      else if Cd.form op = 1 then (⟨op, ((Cd.Rd.at_ p).num s 2).1, 0, 0⟩, ((Cd.Rd.at_ p).num s 2).2)
      else if Cd.form op = 2 then (⟨op, ((Cd.Rd.at_ p).num s 2).1, (((Cd.Rd.at_ p).num s 2).2.num s 2).1, 0⟩, (((Cd.Rd.at_ p).num s 2).2.num s 2).2)
      else (⟨op, 0, 0, 0⟩, Cd.Rd.at_ p)) = (⟨op, (insA s p op).1, (insBb s p op).1, Cd.sgn (insN s p op).1⟩, (insN s p op).2) := by
  have z := num_zero s p hp
  have s0 : Cd.sgn 0 = 0 := rfl
  unfold insN insBb insA Cd.wa Cd.wb Cd.wn
  by_cases h8 : Cd.form op = 8
  · simp [h8, z]
  · by_cases h1 : Cd.form op = 1
    · have z2 : ∀ r : Cd.Rd, r = (Cd.Rd.num s 2 (Cd.Rd.at_ p)).2 → r.num s 0 = (0, r) := fun r hr => by
        by_cases hk : r.fk = 0
        · have e := num_fa s 2 p (by rw [← hr]; exact hk)
          have hl := num_le s 2 p hp
          rw [← hr] at e hl
          rw [e] at hl ⊢
          exact num_zero s _ hl
        · exact bad_num' hk
      simp [h1, z2 _ rfl, s0]
    · by_cases h2 : Cd.form op = 2
      · have z3 : ∀ r : Cd.Rd, r = ((Cd.Rd.num s 2 (Cd.Rd.at_ p)).2.num s 2).2 → r.num s 0 = (0, r) := fun r hr => by
          by_cases hk : r.fk = 0
          · by_cases hk1 : (Cd.Rd.num s 2 (Cd.Rd.at_ p)).2.fk = 0
            · have e1 := num_fa s 2 p hk1
              have hl1 := num_le s 2 p hp
              rw [e1] at hr hl1
              have e := num_fa s 2 (p + 2) (by rw [← hr]; exact hk)
              have hl := num_le s 2 (p + 2) hl1
              rw [← hr] at e hl
              rw [e] at hl ⊢
              exact num_zero s _ hl
            · rw [bad_num' hk1] at hr
              rw [hr] at hk
              exact absurd hk hk1
          · exact bad_num' hk
        simp [h2, z3 _ rfl, s0]
      · simp [h8, h1, h2, z, s0]
def InsPost (b : Nat) (s : List UInt8) (W : World) := EPost RIns (fun cs => ∃ a c d f : Int, cs = [.int .i64 a, .int .i64 c, .int .i64 d, .int .i64 f]) (fun cs => .agg cs.toArray) b s W
theorem ins_finP {b : Nat} {s : List UInt8} {W w' : World} {q : Cd.Ins × Cd.Rd} {a' : Act} {oB : Nat} {x : Cd.Ins} {ev : Value} (hd : a'.defers = []) (h2 : a'.tmps[2]? = some (.pointer (some ⟨oB, 0, none⟩))) (h3 : a'.tmps[3]? = some ev) (hB : w'.heap[oB]? = some (.cells #[.int .i64 x.op, .int .i64 x.a, .int .i64 x.b, .int .i64 x.n] 64 (0, 0))) (hev : errV q.2 = ev) (hp : PM w' b s q.2.pos) (hg : W.grownBy w' (some b)) (hq : q.2.pos ≤ s.length) (hr : q.2.fk = 0 → q.2.fa = 0 ∧ q.1 = x) : bodyPost Tryd.prog Tryd.f47 (InsPost b s W q) .ret a' w' := by
  have c0 : w'.cell? ⟨oB, 0, none⟩ = some (.int .i64 x.op) := by simp [World.cell?, hB]
  have c1 : w'.cell? ⟨oB, 1, none⟩ = some (.int .i64 x.a) := by simp [World.cell?, hB]
  have c2 : w'.cell? ⟨oB, 2, none⟩ = some (.int .i64 x.b) := by simp [World.cell?, hB]
  have c3 : w'.cell? ⟨oB, 3, none⟩ = some (.int .i64 x.n) := by simp [World.cell?, hB]
  refine bodyPost_ret (v := .tuple #[.agg #[.int .i64 x.op, .int .i64 x.a, .int .i64 x.b, .int .i64 x.n], ev]) ?_ hd ⟨[.int .i64 x.op, .int .i64 x.a, .int .i64 x.b, .int .i64 x.n], ⟨_, _, _, _, rfl⟩, by rw [hev], hp, hg, hq, fun h => ⟨(hr h).1, fun _ => False, by rw [(hr h).2]; rfl, fun k hk => hk.elim⟩⟩
  simp [results, Tryd.results47, go_sem, h2, h3, c0, c1, c2, c3]
end Go.Proofs.YticmoofjjikefaaDoor
