/-
  The law's mod and same.
-/
import Derived.Test.YtknjbiineihgfaaRg
import Derived.ChangeKeysEq
set_option linter.unusedVariables false
set_option linter.unusedSimpArgs false
namespace Go.Proofs.Ytknjbiineihgfaa
open Go.RowKit

/-- What mod answers. -/
def modI (n m : Int) : Int := if n.tmod m < 0 then n.tmod m + m else n.tmod m
theorem modI_bounds (n m : Int) (hm : 0 < m) : 0 ≤ modI n m ∧ modI n m < m := by
  have h1 := Int.tmod_lt_of_pos n hm
  have h2 := Int.lt_tmod_of_pos n hm
  unfold modI
  split <;> omega

set_option maxHeartbeats 1000000 in
theorem mod_any (w : World) (n m : Int) (hm : 0 < m) (hm2 : m < 1000000000) :
    Calls Try.prog 6 #[.int .i64 n, .int .i64 m] w fun e w' => e = .returned (.int .i64 (modI n m)) ∧ w' = w := by
  have h1 := Int.tmod_lt_of_pos n hm
  have h2 := Int.lt_tmod_of_pos n hm
  have hne : ¬ m = 0 := by omega
  have hw1 : IntKind.i64.wrap (n.tmod m) = n.tmod m := IntWalk.i64_in _ (by omega)
  have hw2 : IntKind.i64.wrap (n.tmod m + m) = n.tmod m + m := IntWalk.i64_in _ (by omega)
  go_enter Try.func6, Try.ntmps6
  go_wp2
  all_goals
    go_ret
    refine ⟨?_, rfl⟩
    unfold modI
    first
      | (rw [if_pos (by assumption)]; rfl)
      | (rw [if_neg (by omega)]; rfl)
theorem pair_get (A : List (Int × Int)) : ∀ (i : Nat) (x : Int × Int), A[i]? = some x → (pairCells A)[i * 2]? = some (.int .i64 x.1) ∧ (pairCells A)[i * 2 + 1]? = some (.int .i64 x.2) := by
  induction A with
  | nil => intro i x h; simp at h
  | cons a r ih =>
    intro i x h
    have e : pairCells (a :: r) = .int .i64 a.1 :: .int .i64 a.2 :: pairCells r := by simp [pairCells]
    rw [e]
    cases i with
    | zero => obtain rfl : a = x := by simpa using h
              exact ⟨rfl, rfl⟩
    | succ i =>
      have := ih i x (by simpa using h)
      rw [show (i + 1) * 2 = i * 2 + 1 + 1 by omega, show i * 2 + 1 + 1 + 1 = (i * 2 + 1) + 1 + 1 by omega]
      simpa using this

theorem pair_eq (W : World) (p q : Int) : (Op.equalIn 10000 52 (.agg #[.int .i64 p, .int .i64 q]) (.agg #[.int .i64 p, .int .i64 q])).run Try.prog W = .ok true W := by
  obtain ⟨i, hi, hzz⟩ := Option.map_eq_some_iff.1 Try.info3
  simp only [Prod.mk.injEq] at hzz
  have hcs : Try.prog.cellsOf 3 = 1 := by kernel_rfl
  have hp : ∀ (W : World) (j : Nat) (v : Value), (#[Value.int .i64 p, .int .i64 q] : Array Value)[j]? = some v → (part 3 #[.int .i64 p, .int .i64 q] j).run Try.prog W = .ok v W := by
    intro W j v hj
    simp [part, run_underlying Try.underlying3, sizeOf, typeInfo, hi, hzz]
    have hj2 : [Value.int .i64 p, .int .i64 q][j]? = some v := by simpa using hj
    rw [hj2]
    rfl
  have he : ∀ (W : World) (a : Int), (Op.equalIn 9999 3 (.int .i64 a) (.int .i64 a)).run Try.prog W = .ok true W := fun W a => by
    rw [show (9999 : Nat) = 9998 + 1 from rfl, run_equalIn_int W 9998 3 .i64 .i64 _ _ Try.underlying3]
    simp
  rw [show (10000 : Nat) = 9999 + 1 from rfl, run_equalIn_array W 9999 _ _ Try.underlying52 hi, hcs]
  simp [show List.range 2 = [0, 1] from rfl, Op.eqItems, hp W 0 _ rfl, hp W 1 _ rfl, he]
theorem pair_neq (W : World) (p q : Int) : (binOp BinOp.neq 52 (.agg #[.int .i64 p, .int .i64 q]) (.agg #[.int .i64 p, .int .i64 q])).run Try.prog W = .ok (.bool false) W := by
  rw [run_neq_struct, pair_eq]
  rfl

set_option maxHeartbeats 4000000 in
theorem same_pairs (w : World) (va vb : Value) (A : List (Int × Int)) (ha : w.ownsRow 0 52 2 va A.length (pairCells A)) (hb : w.ownsRow 0 52 2 vb A.length (pairCells A)) (hA : A.length < 1000000000) :
    Calls Try.prog 35 #[va, vb] w fun e w' => e = .returned (.bool true) ∧ Same w w' := by
  have hmx : Try.prog.follows .mixedOrders = true := by kernel_rfl
  obtain ⟨a, ca, rfl, hfa, _⟩ := row_slice ha
  obtain ⟨b, cb, rfl, hfb, _⟩ := row_slice hb
  go_enter Try.func35, Try.ntmps35
  go_wp2
  go_loopw [5] (fun i wr => ∃ m : Nat, i = .int .i64 m ∧ m ≤ A.length ∧ Hid (Same w wr)) (fun i _ => A.length - (intOf i).toNat)
  case atStart => exact ⟨0, rfl, Nat.zero_le _, rfl⟩
  case round =>
    obtain ⟨m, rfl, hm, HS⟩ := hrel
    by_cases e : m = A.length
    · subst e
      go_wp2
      go_ret
      exact ⟨rfl, HS.out⟩
    · have hlt : m < A.length := by omega
      obtain ⟨x, hx⟩ : ∃ x, A[m]? = some x := ⟨A[m], by simp⟩
      obtain ⟨ga, rfl⟩ : ∃ ga, a = some ⟨ga, 0, none⟩ := by rcases hfa with h | ⟨g, h⟩; omega; exact ⟨g, h⟩
      obtain ⟨gb, rfl⟩ : ∃ gb, b = some ⟨gb, 0, none⟩ := by rcases hfb with h | ⟨g, h⟩; omega; exact ⟨g, h⟩
      obtain ⟨p1, p2⟩ := pair_get A m x hx
      have a1 : wr.cell? ⟨ga, m * 2, none⟩ = some (.int .i64 x.1) := (HS.out.cell _).trans (row_cell ha _ _ p1)
      have a2 : wr.cell? ⟨ga, m * 2 + 1, none⟩ = some (.int .i64 x.2) := (HS.out.cell _).trans (row_cell ha _ _ p2)
      have b1 : wr.cell? ⟨gb, m * 2, none⟩ = some (.int .i64 x.1) := (HS.out.cell _).trans (row_cell hb _ _ p1)
      have b2 : wr.cell? ⟨gb, m * 2 + 1, none⟩ = some (.int .i64 x.2) := (HS.out.cell _).trans (row_cell hb _ _ p2)
      have hcond : (m : Int) < (A.length : Int) := by omega
      have hi0 : (0 : Int) ≤ (m : Int) := by omega
      have hw : IntKind.i64.wrap ((m : Int) + 1) = (m : Int) + 1 := IntWalk.i64_in _ (by omega)
      clear p1 p2
      have hneq := pair_neq
      go_upto_region 6 with (fail)
      go_region_held3 (fun w' => w'.cell? ⟨ga, m * 2, none⟩ = some (.int .i64 x.1) ∧ w'.cell? ⟨ga, m * 2 + 1, none⟩ = some (.int .i64 x.2) ∧ w'.cell? ⟨gb, m * 2, none⟩ = some (.int .i64 x.1) ∧ w'.cell? ⟨gb, m * 2 + 1, none⟩ = some (.int .i64 x.2)) (go_keep) (fail)
      go_wp2
      go_roundw
      case rel => exact ⟨m + 1, by simp, by omega, HS⟩
      case measure => simp [intOf]; omega
end Go.Proofs.Ytknjbiineihgfaa
