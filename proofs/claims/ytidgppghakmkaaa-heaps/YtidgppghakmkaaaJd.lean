/-
  The document's maps in memory, entry by entry; what is kept, by number (plain).
-/
import Derived.Test.YtidgppghakmkaaaJc
import Derived.MapKept
set_option linter.unusedVariables false
set_option linter.unusedSimpArgs false
namespace Go.Proofs.Ytidgppghakmkaaa
open Go.RowKit Go.Shelf Hp Go.Sort

/-- A map of numbers, by its entries. -/
def MI (w : World) (mB : Nat) (l : List (Int × Int)) : Prop := ∃ es clock, w.heap[mB]? = some (.map es clock) ∧ es.toList.map (fun e => (e.key, e.val)) = l.map fun p => (Value.int .i64 p.1, Value.int .i64 p.2)
theorem findNow_int (k : Int) : ∀ (es : List MapEntry) (l : List (Int × Int)) (i : Nat), es.map (fun e => (e.key, e.val)) = l.map (fun p => (Value.int .i64 p.1, Value.int .i64 p.2)) →
    (l.lookup k = none → Instr.findNow (.int .i64) (.int .i64 k) es i = some none) ∧ (∀ v, l.lookup k = some v → ∃ j, Instr.findNow (.int .i64) (.int .i64 k) es i = some (some (j, .int .i64 v)))
  | [], [], i, _ => ⟨fun _ => rfl, fun v h => by cases h⟩
  | [], _ :: _, _, h => by cases h
  | _ :: _, [], _, h => by cases h
  | e :: es, p :: l, i, h => by
    simp only [List.map_cons, List.cons.injEq, Prod.mk.injEq] at h
    obtain ⟨⟨hk, hv⟩, hr⟩ := h
    obtain ⟨h1, h2⟩ := findNow_int k es l (i + 1) hr
    by_cases e1 : k = p.1
    · subst e1
      refine ⟨fun h => by simp [List.lookup] at h, fun v h => ⟨i, ?_⟩⟩
      have : p.2 = v := by simpa [List.lookup] using h
      simp [Instr.findNow, Instr.sameNow, hk, hv, this]
    · have e2 : (k == p.1) = false := by simp [e1]
      refine ⟨fun h => ?_, fun v h => ?_⟩
      · have : l.lookup k = none := by simpa [List.lookup, e2] using h
        simp [Instr.findNow, Instr.sameNow, hk, h1 this, e2]
      · have : l.lookup k = some v := by simpa [List.lookup, e2] using h
        obtain ⟨j, hj⟩ := h2 v this
        exact ⟨j, by simp [Instr.findNow, Instr.sameNow, hk, hj, e2]⟩
theorem Try.und3 : Try.prog.underlying 3 = some (.int .i64) := by kernel_rfl
theorem Try.undII : Try.prog.underlying 69 = some (.map 3 3) := by kernel_rfl
theorem ckInt (k : Int) (e : Bool) (w : World) : (Instr.checkKey e 10000 3 (.int .i64 k)).run Try.prog w = .ok () w := by
  unfold Instr.checkKey
  simp only [Sem.run_bind, run_underlying Try.und3, Result.andThen]
  rfl
theorem run_look {w : World} {mB : Nat} {l : List (Int × Int)} (h : MI w mB l) {k v : Int} (hk : l.lookup k = some v) : (Instr.lookup 69 (.map (some mB)) (.int .i64 k) false).run Try.prog w = .ok (.int .i64 v) w := by
  obtain ⟨es, clock, hb, he⟩ := h
  obtain ⟨j, hj⟩ := (findNow_int k es.toList l 0 he).2 v hk
  simp only [Instr.lookup, Sem.run_bind, run_underlying Try.undII, Result.andThen_ok, MapKept.run_getObj_map hb, Sem.run_pure, ckInt, MapKept.run_findKey Try.und3 hj]
  rfl
def mput (w : World) (mB : Nat) (o : Obj) : World := { w with heap := w.heap.setIfInBounds mB o }
theorem run_put {w : World} {mB : Nat} {l : List (Int × Int)} (h : MI w mB l) {k v : Int} (hk : l.lookup k = none) : ∃ w', (Instr.mapUpdate 69 (.map (some mB)) (.int .i64 k) (.int .i64 v)).run Try.prog w = .ok () w' ∧ MI w' mB (l ++ [(k, v)]) ∧ Ch (fun j => j = mB) w w' := by
  obtain ⟨es, clock, hb, he⟩ := h
  have hj := (findNow_int k es.toList l 0 he).1 hk
  refine ⟨mput w mB (.map (es.push { key := .int .i64 k, val := .int .i64 v, born := clock }) (clock + 1)), ?_, ⟨_, _, (MapKept.heap_set hb).1, ?_⟩, ⟨by simp [mput], fun j _ hne => (MapKept.heap_set hb).2 j hne, rfl, rfl⟩⟩
  · simp only [Instr.mapUpdate, Sem.run_bind, run_underlying Try.undII, Result.andThen_ok, MapKept.run_getObj_map hb, ckInt, MapKept.run_findKey Try.und3 hj]
    exact MapKept.run_setObj_map _ hb
  · simp [he]
/-- A map of places. -/
def MPt (w : World) (mB : Nat) (l : List Addr) : Prop := ∃ es clock, w.heap[mB]? = some (.map es clock) ∧ es.toList.map (fun e => e.key) = l.map fun a => Value.pointer (some a)
theorem Try.undPB : Try.prog.underlying 70 = some (.map 63 4) := by kernel_rfl
theorem ckPtr (a : Addr) (e : Bool) (w : World) : (Instr.checkKey e 10000 63 (.pointer (some a))).run Try.prog w = .ok () w := by
  have hu : Try.prog.underlying 63 = some (.pointer 43) := by kernel_rfl
  unfold Instr.checkKey
  simp only [Sem.run_bind, run_underlying hu, Result.andThen]
  rfl
theorem eqPtr {a b : Addr} (hne : a ≠ b) (hbl : a.block = b.block) (w : World) : (Op.equal 63 (.pointer (some a)) (.pointer (some b))).run Try.prog w = .ok false w := by
  have hu : Try.prog.underlying 63 = some (.pointer 43) := by kernel_rfl
  have hs : (sizeOf 43).run Try.prog w = .ok 2 w := by kernel_rfl
  have ha : (sameAddr a b).run Try.prog w = .ok false w := by simp [sameAddr, hbl, hne]
  have h1 : (Op.equalIn 10000 63 (.pointer (some a)) (.pointer (some b))).run Try.prog w = .ok false w := by
    rw [Op.equalIn]
    simp only [Sem.run_bind, run_underlying hu, Result.andThen_ok, hs]
    simp [ha]
  exact h1
theorem findAsk (a : Addr) (w : World) : ∀ (es : List MapEntry) (l : List Addr) (i : Nat), es.map (fun e => e.key) = l.map (fun a => Value.pointer (some a)) → (∀ b ∈ l, b ≠ a ∧ b.block = a.block) → (Instr.findAsking 63 (.pointer (some a)) es i).run Try.prog w = .ok none w
  | [], [], i, _, _ => rfl
  | [], _ :: _, _, h, _ => by cases h
  | _ :: _, [], _, h, _ => by cases h
  | e :: es, b :: l, i, h, hn => by
    simp only [List.map_cons, List.cons.injEq] at h
    obtain ⟨hk, hr⟩ := h
    obtain ⟨h1, h2⟩ := hn b List.mem_cons_self
    unfold Instr.findAsking
    rw [hk]
    simp only [Sem.run_bind, eqPtr (Ne.symm h1) h2.symm, Result.andThen_ok]
    exact findAsk a w es l (i + 1) hr (fun b hb => hn b (List.mem_cons_of_mem _ hb))
theorem findPtr {w : World} {a : Addr} {es : List MapEntry} {l : List Addr} (h : es.map (fun e => e.key) = l.map (fun a => Value.pointer (some a))) (hn : ∀ b ∈ l, b ≠ a ∧ b.block = a.block) : (Instr.findKey 63 (.pointer (some a)) es).run Try.prog w = .ok none w := by
  have hu : Try.prog.underlying 63 = some (.pointer 43) := by kernel_rfl
  cases es with
  | nil => simp [Instr.findKey, run_underlying hu, Instr.findNow]
  | cons e es =>
    have hk : Instr.sameNow (.pointer 43) (.pointer (some a)) e.key = none := by
      cases l with
      | nil => cases h
      | cons b l =>
        simp only [List.map_cons, List.cons.injEq] at h
        rw [h.1]
        rfl
    simp only [Instr.findKey, Sem.run_bind, run_underlying hu, Result.andThen_ok, Instr.findNow, hk]
    exact findAsk a w _ l 0 h hn
theorem run_lookP {w : World} {mB : Nat} {l : List Addr} (h : MPt w mB l) {a : Addr} (hn : ∀ b ∈ l, b ≠ a ∧ b.block = a.block) : (Instr.lookup 70 (.map (some mB)) (.pointer (some a)) false).run Try.prog w = .ok (.bool false) w := by
  obtain ⟨es, clock, hb, he⟩ := h
  have hz : (zeroValue 4).run Try.prog w = .ok (.bool false) w := by kernel_rfl
  simp only [Instr.lookup, Sem.run_bind, run_underlying Try.undPB, Result.andThen_ok, MapKept.run_getObj_map hb, Sem.run_pure, ckPtr, findPtr he hn, hz]
  rfl
theorem run_putP {w : World} {mB : Nat} {l : List Addr} (h : MPt w mB l) {a : Addr} (hn : ∀ b ∈ l, b ≠ a ∧ b.block = a.block) : ∃ w', (Instr.mapUpdate 70 (.map (some mB)) (.pointer (some a)) (.bool true)).run Try.prog w = .ok () w' ∧ MPt w' mB (l ++ [a]) ∧ Ch (fun j => j = mB) w w' := by
  obtain ⟨es, clock, hb, he⟩ := h
  refine ⟨mput w mB (.map (es.push { key := .pointer (some a), val := .bool true, born := clock }) (clock + 1)), ?_, ⟨_, _, (MapKept.heap_set hb).1, ?_⟩, ⟨by simp [mput], fun j _ hne => (MapKept.heap_set hb).2 j hne, rfl, rfl⟩⟩
  · simp only [Instr.mapUpdate, Sem.run_bind, run_underlying Try.undPB, Result.andThen_ok, MapKept.run_getObj_map hb, ckPtr, findPtr he hn]
    exact MapKept.run_setObj_map _ hb
  · simp [he]

namespace Hp
theorem rank_upTo (m : Nat → Bool) (T : List Th) : ∀ i, i ≤ T.length → rank m T i = (upTo m i).length
  | 0, _ => by simp [rank, keepL, upTo]
  | i + 1, h => by
    rw [rank_succ (List.getElem?_eq_getElem (by omega)), upTo_succ, rank_upTo m T i (by omega), List.length_append]
    split <;> rfl
theorem upTo_at {m : Nat → Bool} {n x : Nat} (hx : x < n) (hm : m x = true) : (upTo m n)[(upTo m x).length]? = some x := by
  obtain ⟨rest, hr⟩ := upTo_split m hx hm
  rw [hr, List.getElem?_append_right (Nat.le_refl _)]
  simp
theorem upTo_of {m : Nat → Bool} {n r x : Nat} (h : (upTo m n)[r]? = some x) : x < n ∧ m x = true ∧ r = (upTo m x).length := by
  induction n with
  | zero => simp [upTo] at h
  | succ n ih =>
    rw [upTo_succ] at h
    by_cases hl : r < (upTo m n).length
    · rw [List.getElem?_append_left hl] at h
      obtain ⟨h1, h2, h3⟩ := ih h
      exact ⟨by omega, h2, h3⟩
    · rw [List.getElem?_append_right (by omega)] at h
      cases hm : m n with
      | false => rw [hm] at h; simp at h
      | true =>
        rw [hm] at h
        have h0 : r - (upTo m n).length = 0 := by
          have := (List.getElem?_eq_some_iff.1 h).1
          simp at this
          omega
        rw [h0] at h
        obtain rfl : n = x := by simpa using h
        exact ⟨by omega, hm, by omega⟩
theorem coll_len (m : Nat → Bool) (T : List Th) : (coll m T).length = (upTo m T.length).length := by
  rw [← rank_upTo m T T.length (Nat.le_refl _)]
  simp [coll, rank]
/-- The marked things in their order. -/
def nth (m : Nat → Bool) (T : List Th) (r : Nat) : Nat := (upTo m T.length).getD r 0
theorem nth_at {m : Nat → Bool} {T : List Th} {x : Nat} (hx : x < T.length) (hm : m x = true) : nth m T (upTo m x).length = x := by
  unfold nth
  rw [List.getD_eq_getElem?_getD, upTo_at hx hm]
  rfl
theorem nth_of {m : Nat → Bool} {T : List Th} {r : Nat} (h : r < (upTo m T.length).length) : nth m T r < T.length ∧ m (nth m T r) = true ∧ r = (upTo m (nth m T r)).length := by
  have h1 : (upTo m T.length)[r]? = some (nth m T r) := by unfold nth; rw [List.getD_eq_getElem?_getD, List.getElem?_eq_getElem h]; rfl
  exact upTo_of h1
/-- What the document's list has for the r-th of them. -/
def dN (m : Nat → Bool) (T : List Th) (bs : Nat → Nat) (r : Nat) : RT := ⟨(nad m T (nth m T r) : Nat), (thOf T (nth m T r)).kind, (thOf T (nth m T r)).tag, bs (nth m T r), (thOf T (nth m T r)).l.length⟩
theorem dN_coll {m : Nat → Bool} {T : List Th} {bs : Nat → Nat} {r : Nat} (h : r < (upTo m T.length).length) : dOf (coll m T) (fun r => bs (nth m T r)) r = dN m T bs r := by
  obtain ⟨h1, h2, h3⟩ := nth_of h
  have ht : T[nth m T r]? = some T[nth m T r] := List.getElem?_eq_getElem h1
  obtain ⟨h4, h5⟩ := coll_at ht h2
  rw [rank_upTo m T _ (by omega), ← h3] at h4 h5
  unfold dOf dN
  rw [h5, thOf_at h4, thOf_at ht]
  simp [newT]
/-- From old addresses to new ones. -/
def toL (m : Nat → Bool) (T : List Th) (i : Nat) : List (Int × Int) := (upTo m i).map fun x => ((ad T x : Int), (nad m T x : Int))
theorem toL_none {m : Nat → Bool} {T : List Th} {i : Nat} (hi : i < T.length) : (toL m T i).lookup (ad T i : Int) = none := by
  rw [List.lookup_eq_none_iff]
  intro p hp
  obtain ⟨x, hx, rfl⟩ := List.mem_map.1 hp
  have := upTo_lt hx
  have := ad_strict (List.getElem?_eq_getElem (show x < T.length by omega)) this
  simp
  omega
theorem toL_some {m : Nat → Bool} {T : List Th} {k : Nat} (hk : k < T.length) (hm : m k = true) : (toL m T T.length).lookup (ad T k : Int) = some (nad m T k : Int) := by
  obtain ⟨rest, hr⟩ := upTo_split m hk hm
  unfold toL
  rw [hr, List.map_append, List.map_cons]
  have h0 := toL_none (m := m) hk
  unfold toL at h0
  rw [List.lookup_append, h0]
  simp [List.lookup]
end Hp
end Go.Proofs.Ytidgppghakmkaaa
