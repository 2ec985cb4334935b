/-
  slices.Delete at the end of a row; Put of none.
-/
import Derived.Test.YtknjbiineihgfaaSh
import Derived.Laws.CopyRow
set_option linter.unusedVariables false
set_option linter.unusedSimpArgs false
namespace Go.Proofs.Ytknjbiineihgfaa
open Go.RowKit

theorem run_append0 {P : Program} (w : World) (t ty e : TypeId) (z : Value) (size bytes : Nat) (ht : P.underlying t = some (.slice e)) (hinfo : (P.info? e).map (fun i => (i.zero, i.size, i.bytes)) = some (some z, size, bytes)) (a b : Addr) (i cap c : Nat) (h : i ≤ cap) :
    (Builtin.append_ #[t, t] ty #[.slice (some a) i cap, .slice (some b) 0 c]).run P w = .ok (.slice (some a) i cap) w := by
  obtain ⟨x, hi, hzz⟩ := Option.map_eq_some_iff.1 hinfo
  simp [Builtin.append_, run_underlying ht, sizeOf, typeInfo, hi, Builtin.lenOf, Builtin.firstCells, loadCells, loadCellsFrom, storeCells, h]

theorem run_clear {P : Program} (w : World) (t ty e : TypeId) (z : Value) (size bytes : Nat) (ht : P.underlying t = some (.slice e)) (hinfo : (P.info? e).map (fun i => (i.zero, i.size, i.bytes)) = some (some z, size, bytes)) (g o m c : Nat) (cur : Array Value) (T : TypeId)
    (hg : w.heap[g]? = some (.cells cur T (0, 0))) (hl : o + m * z.cells.size ≤ cur.size) (h1 : ∀ v ∈ z.cells, v.oneCell' = true) :
    ∃ cur', (Builtin.clear_ #[t] ty #[.slice (some ⟨g, o, none⟩) m c]).run P w = .ok (.tuple #[]) (w.setRow g cur') ∧ cur'.size = cur.size ∧ cur'.toList.take o = cur.toList.take o := by
  obtain ⟨x, hi, hzz⟩ := Option.map_eq_some_iff.1 hinfo
  simp only [Prod.mk.injEq] at hzz
  cases m with
  | zero =>
    refine ⟨cur, ?_, rfl, rfl⟩
    rw [setRow_self w g cur T (0, 0) hg]
    simp [Builtin.clear_, run_underlying ht]
  | succ m =>
    have hzl : (Builtin.zeroCells z.cells (m + 1)).toList.length = (m + 1) * z.cells.size := by simp [Builtin.zeroCells]
    have hst := run_storeCells_at P g o T (Builtin.zeroCells z.cells (m + 1)).toList 0 cur w hg (by rw [hzl]; omega) (by
      intro v hv
      simp [Builtin.zeroCells] at hv
      obtain ⟨i, hi, rfl⟩ := hv
      have hp : 0 < z.cells.size := by
        rcases Nat.eq_zero_or_pos z.cells.size with h | h
        · rw [h] at hi; omega
        · exact h
      have := Nat.mod_lt i hp
      rw [getElem!_pos z.cells _ this]
      exact h1 _ (by simp))
    obtain ⟨Z, hZ⟩ : ∃ Z, (Builtin.zeroCells z.cells (m + 1)).toList = Z := ⟨_, rfl⟩
    rw [hZ] at hst hzl
    refine ⟨(cur.toList.take (o + 0) ++ Z ++ cur.toList.drop (o + 0 + Z.length)).toArray, ?_, ?_, ?_⟩
    · simp only [Builtin.clear_]
      simp [run_underlying ht, zeroValue, typeInfo, hi, hzz.1, hZ]
      simp at hst
      rw [hst]
      rfl
    · simp; omega
    · have hol : o ≤ cur.toList.length := by simp; omega
      show List.take o (List.take (o + 0) cur.toList ++ Z ++ List.drop (o + 0 + Z.length) cur.toList) = _
      rw [Nat.add_zero, List.append_assoc, List.take_append_of_le_length (by rw [List.length_take]; omega), List.take_take, Nat.min_self]

set_option maxHeartbeats 1000000 in
theorem put_nil (w : World) (b : Nat) :
    Calls Try.prog 23 #[.pointer (some ⟨b, 0, none⟩), .pointer none] w fun e w' => e = .returned (.tuple #[]) ∧ w' = w := by
  go_enter Try.func23, Try.ntmps23
  go_wp2
  refine bodyPost_ret (results_none rfl _ _ _) rfl ?_
  exact ⟨rfl, rfl⟩

set_option maxHeartbeats 4000000 in
theorem delete_any (w : World) (g n cap i : Nat) (xs : List Value) (h : w.ownsRow 0 57 4 (.slice (some ⟨g, 0, none⟩) n cap) n xs) (hi : i < n) (hn : n < 1000000000) :
    Calls Try.prog 43 #[.slice (some ⟨g, 0, none⟩) n cap, .int .i64 i, .int .i64 n] w fun e w' => e = .returned (.slice (some ⟨g, 0, none⟩) i cap) ∧
      w'.ownsRow 0 57 4 (.slice (some ⟨g, 0, none⟩) i cap) i (xs.take (i * 4)) ∧ Ch (fun k => k = g) w w' := by
  rcases h.2 with ⟨h0, _⟩ | ⟨g', cap', cur, h0, _, hg, hnc, hcm, hcs, htk⟩
  · cases h0
  cases h0
  have hmx : Try.prog.follows .mixedOrders = true := by kernel_rfl
  have hap := fun (W : World) (a b : Addr) (c : Nat) => run_append0 (P := Try.prog) W 54 54 57 _ 4 32 Try.underlying54 Try.infoS a b i cap c (by omega)
  have hne : ¬ ((i : Int) = (n : Int)) := by omega
  go_enter Try.func43, Try.ntmps43
  go_upto_region 5 with (fail)
  have hcapl : cap ≤ 9223372036854775807 := hcm
  have k1 : (0 : Int) ≤ (i : Int) := by omega
  have k2 : (i : Int) ≤ (n : Int) := by omega
  have k3 : (n : Int) ≤ (cap : Int) := by omega
  have k4 : (i : Int) ≤ (cap : Int) := by omega
  have k5 : (0 : Int) ≤ (n : Int) := by omega
  have hcase : (if cap = n then some (⟨g, 0, none⟩ : Addr) else some ⟨g, n * 4, none⟩) = some (if cap = n then ⟨g, 0, none⟩ else ⟨g, n * 4, none⟩) := by split <;> rfl
  obtain ⟨cur', hcl, e1, e2⟩ := run_clear (P := Try.prog) w.drew 54 0 57 _ 4 32 Try.underlying54 Try.infoS g (i * 4) (n - i) (cap - i) cur 57 hg (by rw [hcs]; show i * 4 + (n - i) * 4 ≤ cap * 4; omega) (by simp [Value.cells, Value.oneCell'])
  have fin : w.drew.setRow g cur' |>.ownsRow 0 57 4 (.slice (some ⟨g, 0, none⟩) i cap) i (xs.take (i * 4)) := by
    refine ⟨by rw [List.length_take, h.1]; omega, .inr ⟨g, cap, cur', rfl, Nat.zero_le _, setRow_heap _ g cur _ _ _ hg, by omega, hcm, by rw [e1, hcs], ?_⟩⟩
    rw [e2, ← htk, List.take_take]
    congr 1
    omega
  have finc : Ch (fun k => k = g) w (w.drew.setRow g cur') := ⟨by simp, fun k _ hk => setRow_other w.drew g k _ hk, rfl, rfl⟩
  rcases Nat.eq_or_lt_of_le hnc with hcn | hcn
  · subst hcn
    go_region
    go_wp2
    go_ret
    exact ⟨rfl, fin, finc⟩
  · have hcn2 : ¬ cap = n := by omega
    go_region
    go_wp2
    go_ret
    exact ⟨rfl, fin, finc⟩
end Go.Proofs.Ytknjbiineihgfaa
