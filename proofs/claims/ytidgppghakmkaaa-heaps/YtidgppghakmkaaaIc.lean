/-
  The program's New and Make.
-/
import Derived.Test.YtidgppghakmkaaaIb
set_option linter.unusedVariables false
set_option linter.unusedSimpArgs false
namespace Go.Proofs.Ytidgppghakmkaaa
open Go.RowKit Go.Shelf Hp
attribute [local simp] wide_fn

theorem Try.infoHC : (Try.prog.info? 61).map (fun i => (i.zero, i.size, i.bytes)) = some (some (.agg #[.int .u8 0, .int .u8 0, .int .u16 0, .int .u32 0, .int .i64 0]), 5, 16) := by kernel_rfl
theorem five_get (k : Nat) (hk : k < 5) : (#[.int .u8 0, .int .u8 0, .int .u16 0, .int .u32 0, .int .i64 0] : Array Value)[k]? = some (cv zeroC k) := by
  rcases (show k = 0 ∨ k = 1 ∨ k = 2 ∨ k = 3 ∨ k = 4 by omega) with rfl | rfl | rfl | rfl | rfl <;> rfl
theorem made_row (n : Nat) : madeCells (#[.int .u8 0, .int .u8 0, .int .u16 0, .int .u32 0, .int .i64 0] : Array Value) (n * 5) = rowC (fun _ => zeroC) n := by
  apply Array.ext_getElem?
  intro i
  rw [rowC_all]
  have h5 := five_get (i % 5) (by omega)
  by_cases h : i < n * 5
  · rw [if_pos h]
    simp [madeCells, h]
    rw [List.getElem?_toArray] at h5
    rw [h5]
    rfl
  · rw [if_neg h]
    simp [madeCells, h]
set_option maxHeartbeats 1000000 in
theorem New_ok (w : World) (n : Nat) (hn : n ≤ 1000000) :
    Calls Try.prog 4 #[.int .i64 n] w fun e w' => e = .returned (.tuple #[.pointer (some ⟨w.heap.size + 1, 0, none⟩), .int .i64 0]) ∧ HM w' (w.heap.size + 1) w.heap.size n (fun _ => zeroC) 0 ∧ Ch (fun _ => False) w w' := by
  obtain ⟨i, hi, hzz⟩ := Option.map_eq_some_iff.1 Try.infoHC
  simp only [Prod.mk.injEq] at hzz
  obtain ⟨hz, hs, hb⟩ := hzz
  have hmk := run_make (P := Try.prog) w 54 61 i _ Try.underlying54 hi hz .i64 .i64 n n (by omega) (Int.le_refl _) (by rw [hb]; omega) (by omega)
  rw [hs] at hmk
  simp only [Int.toNat_natCast] at hmk
  rw [show (Value.agg #[.int .u8 0, .int .u8 0, .int .u16 0, .int .u32 0, .int .i64 0]).cells = #[.int .u8 0, .int .u8 0, .int .u16 0, .int .u32 0, .int .i64 0] from rfl, made_row] at hmk
  clear hi hz hs hb
  have h1 : ¬ ((n : Int) < 0) := by omega
  have h2 : ¬ ((1000000 : Int) < (n : Int)) := by omega
  go_enter Try.func4, Try.ntmps4
  go_wp2
  refine bodyPost_ret (v := .tuple #[.pointer (some ⟨w.heap.size + 1, 0, none⟩), .int .i64 0]) (by simp [results, Try.results4, go_sem]) rfl ?_
  refine ⟨rfl, ⟨?_, ?_, by omega, by omega, hn⟩, ((Ch.refl _ w).al _).al _⟩
  · have := World.alloc_heap_new (w.alloc (.cells (rowC (fun _ => zeroC) n) 61)) (.cells #[.slice (some ⟨w.heap.size, 0, none⟩) n n, .int .i64 0] 56)
    rwa [World.size_alloc] at this
  · exact blk_alloc (World.alloc_heap_new _ _)
set_option maxHeartbeats 1000000 in
theorem New_no (w : World) (n : Int) (hn : n < 0 ∨ 1000000 < n) :
    Calls Try.prog 4 #[.int .i64 n] w fun e w' => e = .returned (.tuple #[.pointer none, .int .i64 11]) ∧ w' = w := by
  rcases hn with h | h
  · go_enter Try.func4, Try.ntmps4
    go_wp2
    refine bodyPost_ret (v := .tuple #[.pointer none, .int .i64 11]) (by simp [results, Try.results4, go_sem]) rfl ?_
    exact ⟨rfl, rfl⟩
  · have h1 : ¬ (n < 0) := by omega
    go_enter Try.func4, Try.ntmps4
    go_wp2
    refine bodyPost_ret (v := .tuple #[.pointer none, .int .i64 11]) (by simp [results, Try.results4, go_sem]) rfl ?_
    exact ⟨rfl, rfl⟩

/-- Cells are cleared. -/
def clr (f : Nat → PC) (a n : Nat) : Nat → PC := fun x => if a ≤ x ∧ x < a + n then zeroC else f x
def zero5 (n : Nat) : List Value := List.ofFn (n := n * 5) fun i => cv zeroC (i.1 % 5)
theorem zero5_len (n : Nat) : (zero5 n).length = n * 5 := by simp [zero5]
theorem zero5_at (n j : Nat) : (zero5 n)[j]? = if j < n * 5 then some (cv zeroC (j % 5)) else none := by
  unfold zero5
  rw [List.getElem?_ofFn]
  split <;> rfl
theorem zeroCells5 (n : Nat) : (Builtin.zeroCells (#[.int .u8 0, .int .u8 0, .int .u16 0, .int .u32 0, .int .i64 0] : Array Value) n).toList = zero5 n := by
  apply List.ext_getElem?
  intro i
  rw [zero5_at]
  have h5 := five_get (i % 5) (by omega)
  by_cases h : i < n * 5
  · rw [if_pos h]
    simp [Builtin.zeroCells, h]
    rw [List.getElem?_toArray] at h5
    rw [h5]
    rfl
  · rw [if_neg h]
    simp [Builtin.zeroCells, h]
theorem rowC_clr (f : Nat → PC) {N a n : Nat} (hd : a + n ≤ N) : ((rowC f N).toList.take (a * 5) ++ zero5 n ++ (rowC f N).toList.drop (a * 5 + (zero5 n).length)).toArray = rowC (clr f a n) N := by
  rw [zero5_len]
  apply Array.ext_getElem?
  intro i
  have hR : ∀ i, (rowC f N).toList[i]? = if i < N * 5 then some (cv (f (i / 5)) (i % 5)) else none := fun i => by rw [Array.getElem?_toList, rowC_all]
  have hlen : (rowC f N).toList.length = N * 5 := by rw [Array.length_toList, rowC_size]
  rw [List.getElem?_toArray, rowC_all, List.append_assoc]
  by_cases h1 : i < a * 5
  · rw [List.getElem?_append_left (by rw [List.length_take, hlen]; omega), List.getElem?_take, if_pos h1, hR]
    have : ¬ (a ≤ i / 5 ∧ i / 5 < a + n) := by omega
    simp only [clr, if_neg this]
  · rw [List.getElem?_append_right (by rw [List.length_take, hlen]; omega), List.length_take, hlen, show min (a * 5) (N * 5) = a * 5 by omega]
    by_cases h2 : i < a * 5 + n * 5
    · rw [List.getElem?_append_left (by rw [zero5_len]; omega), zero5_at, if_pos (by omega), if_pos (by omega)]
      have h3 : a ≤ i / 5 ∧ i / 5 < a + n := by omega
      have e2 : (i - a * 5) % 5 = i % 5 := by omega
      simp only [clr, if_pos h3]
      rw [e2]
    · rw [List.getElem?_append_right (by rw [zero5_len]; omega), zero5_len, List.getElem?_drop, hR, show a * 5 + n * 5 + (i - a * 5 - n * 5) = i by omega]
      have : ¬ (a ≤ i / 5 ∧ i / 5 < a + n) := by omega
      simp only [clr, if_neg this]
theorem HM.clear {w : World} {hb g N : Nat} {f : Nat → PC} {u : Nat} (H : HM w hb g N f u) {a n : Nat} (hn : 0 < n) (hd : a + n ≤ N) (ty : TypeId) (cap : Nat) :
    (Builtin.clear_ #[54] ty #[.slice (some ⟨g, a * 5, none⟩) n cap]).run Try.prog w = .ok (.tuple #[]) (w.setRow g (rowC (clr f a n) N)) ∧ HM (w.setRow g (rowC (clr f a n) N)) hb g N (clr f a n) u ∧ Ch (fun k => k = g) w (w.setRow g (rowC (clr f a n) N)) := by
  refine ⟨?_, ⟨(setRow_other _ H.ne).trans H.hd, setRow_heap w g _ _ _ _ H.row, H.ne, H.le, H.max⟩, ⟨by rw [setRow_size]; exact Nat.le_refl _, fun k _ hk => setRow_other _ hk, rfl, rfl⟩⟩
  have hst := run_storeCells_at Try.prog g (a * 5) 61 (zero5 n) 0 (rowC f N) w H.row (by rw [zero5_len, rowC_size]; omega) (fun v hv => by
    unfold zero5 at hv
    obtain ⟨i, rfl⟩ := List.mem_ofFn.1 hv
    exact cv_one _ _)
  simp only [Nat.add_zero] at hst
  rw [rowC_clr f hd] at hst
  have hz : ∀ w : World, (zeroValue 61).run Try.prog w = .ok (.agg #[.int .u8 0, .int .u8 0, .int .u16 0, .int .u32 0, .int .i64 0]) w := fun w => by kernel_rfl
  obtain ⟨m, rfl⟩ : ∃ m, n = m + 1 := ⟨n - 1, by omega⟩
  simp only [Builtin.clear_]
  simp [run_underlying Try.underlying54, hz, show (Value.agg #[.int .u8 0, .int .u8 0, .int .u16 0, .int .u32 0, .int .i64 0]).cells = #[.int .u8 0, .int .u8 0, .int .u16 0, .int .u32 0, .int .i64 0] from rfl, zeroCells5, hst]

namespace Hp
/-- A thing of n fields that say nothing yet. -/
def newTh (kind tag : Int) (n : Nat) : Th := ⟨kind, tag, List.replicate n ⟨false, 0⟩⟩
theorem newTh_size (kind tag : Int) (n : Nat) : (newTh kind tag n).size = n + 1 := by simp [newTh, Th.size]
theorem used_snoc (T : List Th) (t : Th) : used (T ++ [t]) = used T + t.size := by simp [used]
theorem ad_snoc {T : List Th} (t : Th) {i : Nat} (h : i ≤ T.length) : ad (T ++ [t]) i = ad T i := by
  unfold ad
  rw [List.take_append_of_le_length h]
theorem Lay.snoc {T : List Th} {f : Nat → PC} (h : Lay T f (g0 T)) (kind tag : Int) (n : Nat) {f' : Nat → PC} (h1 : ∀ x, x < used T → f' x = f x) (h2 : f' (used T) = ⟨2, kind, tag, (n : Nat), 0⟩) (h3 : ∀ j, j < n → f' (used T + 1 + j) = zeroC) : Lay (T ++ [newTh kind tag n]) f' (g0 (T ++ [newTh kind tag n])) := by
  intro i t ht k hk
  by_cases e : i < T.length
  · have ht' : T[i]? = some t := by rwa [List.getElem?_append_left e] at ht
    rw [ad_snoc _ (by omega), h1 _ (by have := ad_used ht'; have : t.size = t.l.length + 1 := rfl; omega), h i t ht' k hk]
    have hk' : (T ++ [newTh kind tag n])[i]? = T[i]? := List.getElem?_append_left e
    cases k with
    | zero => simp only [g0, headC, thOf, hk']
    | succ k => simp only [g0, clOf, hk']
  · have hi : i = T.length := by
      have := (List.getElem?_eq_some_iff.1 ht).1
      simp at this
      omega
    subst hi
    have ht' : newTh kind tag n = t := by simpa using ht
    subst ht'
    rw [ad_snoc _ (Nat.le_refl _), ad_all]
    cases k with
    | zero =>
      rw [Nat.add_zero, h2]
      simp only [g0, headC, thOf_at ht]
      simp [newTh]
    | succ k =>
      have hkn : k < n := by simp [newTh] at hk; omega
      rw [show used T + (k + 1) = used T + 1 + k by omega, h3 k hkn]
      have : clOf (T ++ [newTh kind tag n]) T.length k = ⟨false, 0⟩ := by
        rw [clOf_at ht]
        simp [newTh, List.getD, hkn]
      simp [g0, this, field, zeroC]
end Hp

set_option maxRecDepth 100000 in
set_option maxHeartbeats 4000000 in
/-- Wrong arguments. -/
theorem Make_bad (w : World) (p : Value) (kind tag n : Int) (fv : Value) (h : ¬ ((0 ≤ kind ∧ kind ≤ 4) ∧ (0 ≤ tag ∧ tag ≤ 65535) ∧ (0 ≤ n ∧ n ≤ 1000000))) :
    Calls Try.prog 6 #[p, .int .i64 kind, .int .i64 tag, .int .i64 n, fv] w fun e w' => e = .returned (.tuple #[.int .i64 0, .int .i64 11]) ∧ w' = w := by
  by_cases h1 : kind < 0
  · clear h
    go_enter Try.func6, Try.ntmps6
    go_wp2
    refine bodyPost_ret (v := .tuple #[.int .i64 0, .int .i64 11]) (by simp [results, Try.results6, go_sem]) rfl ?_
    exact ⟨rfl, rfl⟩
  by_cases h2 : 4 < kind
  · clear h
    go_enter Try.func6, Try.ntmps6
    go_wp2
    refine bodyPost_ret (v := .tuple #[.int .i64 0, .int .i64 11]) (by simp [results, Try.results6, go_sem]) rfl ?_
    exact ⟨rfl, rfl⟩
  by_cases h3 : tag < 0
  · clear h
    go_enter Try.func6, Try.ntmps6
    go_wp2
    refine bodyPost_ret (v := .tuple #[.int .i64 0, .int .i64 11]) (by simp [results, Try.results6, go_sem]) rfl ?_
    exact ⟨rfl, rfl⟩
  by_cases h4 : 65535 < tag
  · clear h
    go_enter Try.func6, Try.ntmps6
    go_wp2
    refine bodyPost_ret (v := .tuple #[.int .i64 0, .int .i64 11]) (by simp [results, Try.results6, go_sem]) rfl ?_
    exact ⟨rfl, rfl⟩
  by_cases h5 : n < 0
  · clear h
    go_enter Try.func6, Try.ntmps6
    go_wp2
    refine bodyPost_ret (v := .tuple #[.int .i64 0, .int .i64 11]) (by simp [results, Try.results6, go_sem]) rfl ?_
    exact ⟨rfl, rfl⟩
  have h6 : 1000000 < n := by omega
  clear h
  go_enter Try.func6, Try.ntmps6
  go_wp2
  refine bodyPost_ret (v := .tuple #[.int .i64 0, .int .i64 11]) (by simp [results, Try.results6, go_sem]) rfl ?_
  exact ⟨rfl, rfl⟩
end Go.Proofs.Ytidgppghakmkaaa
