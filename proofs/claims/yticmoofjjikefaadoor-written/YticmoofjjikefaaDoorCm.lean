/-
  A row of bytes that a call makes: out of a string, a string behind it, a byte behind it.
-/
import Derived.Test.YticmoofjjikefaaDoorBa
import Derived.Lib.ConvBytes
import Derived.Lib.AppendStr
set_option linter.unusedVariables false
set_option linter.unusedSimpArgs false
namespace Go.Proofs.YticmoofjjikefaaDoor
open Go.RowKit Go.Lib

def cellsOf (l : List UInt8) : List Value := l.map fun c => .int .u8 (c.toNat : Int)
theorem cellsOf_length (l : List UInt8) : (cellsOf l).length = l.length := by simp [cellsOf]
theorem cellsOf_append (l k : List UInt8) : cellsOf (l ++ k) = cellsOf l ++ cellsOf k := by simp [cellsOf]
theorem strCells_of (s : ByteArray) : strCells s = cellsOf s.data.toList := by simp [strCells, cellsOf]

/-- The value is a slice of these bytes, in a block from B on; of its cells none is frozen. -/
def ByRow (w : World) (B : Nat) (v : Value) (l : List UInt8) : Prop :=
  ∃ g cap cur fz, v = .slice (some ⟨g, 0, none⟩) l.length cap ∧ B ≤ g ∧ w.heap[g]? = some (.cells cur 5 fz) ∧ (cap ≤ fz.1 ∨ fz.2 = 0) ∧ l.length ≤ cap ∧ cap ≤ maxLen ∧ cur.size = cap ∧ cur.toList.take l.length = cellsOf l

theorem ByRow.keep {w w' : World} {B : Nat} {v : Value} {l : List UInt8} (h : ByRow w B v l) (hb : Below w.heap.size w w') : ByRow w' B v l := by
  obtain ⟨g, cap, cur, fz, h1, h2, h3, h4⟩ := h
  exact ⟨g, cap, cur, fz, h1, h2, (hb.block g (Array.getElem?_eq_some_iff.1 h3).1).trans h3, h4⟩
theorem ByRow.mono {w : World} {B B' : Nat} {v : Value} {l : List UInt8} (h : ByRow w B v l) (hb : B' ≤ B) : ByRow w B' v l := by
  obtain ⟨g, cap, cur, fz, h1, h2, h3⟩ := h
  exact ⟨g, cap, cur, fz, h1, Nat.le_trans hb h2, h3⟩
theorem ByRow.cell {w : World} {B : Nat} {v : Value} {l : List UInt8} (h : ByRow w B v l) : ∃ g cap, v = .slice (some ⟨g, 0, none⟩) l.length cap ∧ ∀ j (hj : j < l.length), w.cell? ⟨g, j, none⟩ = some (.int .u8 (l[j].toNat : Int)) := by
  obtain ⟨g, cap, cur, fz, h1, h2, h3, h4, h5, h6, h7, h8⟩ := h
  refine ⟨g, cap, h1, fun j hj => ?_⟩
  have e : cur[j]? = some (.int .u8 (l[j].toNat : Int)) := by
    have e2 := congrArg (fun x => x[j]?) h8
    simp only [List.getElem?_take, if_pos hj, cellsOf, List.getElem?_map, List.getElem?_eq_getElem hj, Option.map_some] at e2
    simpa using e2
  simp [World.cell?, h3, e]

/-- Cells behind one another, into a row of which none of the cells is frozen. -/
theorem store_cells (P : Program) (g o : Nat) (t : TypeId) (fz : Nat × Nat) : ∀ (vs : List Value) (i : Nat) (cur : Array Value) (w : World), w.heap[g]? = some (.cells cur t fz) → (cur.size ≤ fz.1 ∨ fz.2 = 0) → o + i + vs.length ≤ cur.size → (∀ v ∈ vs, v.oneCell' = true) →
    ∃ w', (storeCells ⟨g, o, none⟩ vs i).run P w = .ok () w' ∧ w'.heap[g]? = some (.cells (cur.toList.take (o + i) ++ vs ++ cur.toList.drop (o + i + vs.length)).toArray t fz) ∧ w.grownBy w' (some g) := by
  intro vs
  induction vs with
  | nil =>
    intro i cur w hg _ _ _
    exact ⟨w, rfl, by simpa using hg, rfl, rfl, rfl, Nat.le_refl _, fun _ _ _ => rfl⟩
  | cons v r ih =>
    intro i cur w hg hfz hl h1
    simp only [List.length_cons] at hl
    have hi : o + i < cur.size := by omega
    have hadd : (⟨g, o, none⟩ : Addr).add i = ⟨g, o + i, none⟩ := by simp [Addr.add]
    have hcell : w.cell? ⟨g, o + i, none⟩ = some cur[o + i] := by simp [World.cell?, hg, hi]
    have hfro : w.frozen? ⟨g, o + i, none⟩ = false := by
      obtain ⟨lo, up⟩ := fz
      simp only [World.frozen?, hg, Bool.and_eq_false_iff, decide_eq_false_iff_not]
      simp only at hfz
      omega
    have hst : (store ((⟨g, o, none⟩ : Addr).add i) v).run P w = .ok () (w.setRow g (cur.setIfInBounds (o + i) v)) := by
      rw [hadd, run_store P w _ v _ (h1 v (by simp)), hcell]
      simp [hfro, setCell_eq_setRow w g (o + i) cur t fz v hg]
    obtain ⟨w', e1, e2, e3⟩ := ih (i + 1) (cur.setIfInBounds (o + i) v) _ (setRow_heap w g cur (cur.setIfInBounds (o + i) v) t fz hg) (by simpa using hfz) (by simp; omega) (fun x hx => h1 x (by simp [hx]))
    refine ⟨w', ?_, ?_, ?_⟩
    · simp only [storeCells, Sem.run_bind, hst, Result.andThen_ok, e1]
    · rw [e2]
      congr 3
      have hs := list_seg_step cur.toList (o + i) v r (by simp; omega)
      simpa [Array.toList_setIfInBounds, Nat.add_assoc] using hs
    · refine ⟨e3.os, e3.tape, e3.output, ?_, fun k hk hne => ?_⟩
      · have := e3.size
        simpa using this
      · have hne2 : k ≠ g := fun e => hne (by rw [e])
        rw [e3.block k (by simpa using hk) hne]
        exact setRow_other w g k _ hne2

theorem Tryd.infoU8 : ∃ i, Tryd.prog.info? 5 = some i ∧ i.zero = some (.int .u8 0) ∧ i.size = 1 ∧ i.bytes = 1 := by
  obtain ⟨i, h1, h2⟩ := Option.map_eq_some_iff.1 Tryd.info5
  simp only [Prod.mk.injEq] at h2
  exact ⟨i, h1, h2.1, h2.2.1, h2.2.2⟩


theorem ByRow.lt {w : World} {B : Nat} {v : Value} {l : List UInt8} (h : ByRow w B v l) : ∃ g, v.ownBlock = some g ∧ B ≤ g ∧ g < w.heap.size := by
  obtain ⟨g, cap, cur, fz, rfl, h2, h3, _⟩ := h
  exact ⟨g, rfl, h2, (Array.getElem?_eq_some_iff.1 h3).1⟩
theorem ByRow.ne {w : World} {B : Nat} {v : Value} {l : List UInt8} (h : ByRow w B v l) {k : Nat} (hk : w.heap.size ≤ k ∨ k < B) : some k ≠ v.ownBlock := by
  obtain ⟨g, e, h1, h2⟩ := h.lt
  rw [e]
  simp
  omega
theorem ByRow.below {w w' : World} {B : Nat} {v : Value} {l : List UInt8} (h : ByRow w B v l) (hB : B ≤ w.heap.size) (hg : w.grownBy w' v.ownBlock) : Below B w w' :=
  ⟨hg.os, hg.tape, hg.output, hg.size, fun k hk => hg.block k (by omega) (h.ne (.inr hk))⟩

/-- '[]byte(s)'. -/
theorem bytes_of (w : World) (s : ByteArray) (hs : s.size ≤ maxLen) : ∃ v w', (convert 9 67 (.string s)).run Tryd.prog w = .ok v w' ∧ ByRow w' w.heap.size v s.data.toList ∧ Below w.heap.size w w' := by
  refine ⟨_, _, Lib.run_convert_string_bytes w 9 67 5 s Tryd.underlying9 Tryd.underlying67 Tryd.underlying5, ?_, ?_⟩
  · refine ⟨w.heap.size, _, _, _, by rw [show s.data.toList.length = s.size from rfl], Nat.le_refl _, bytesWorld_at_new w 5 s, .inl ?_, ?_, grownCap_le_maxLen w _ _ _ hs, ?_, ?_⟩
    · have := grownCap_ge w s.size 0 5
      simp [bytesCells]
      omega
    · exact grownCap_ge w s.size 0 5
    · have := grownCap_ge w s.size 0 5
      simp [bytesCells]
      omega
    · simp only [bytesCells, Array.toList_append, Array.toList_map]
      rw [List.take_append_of_le_length (by simp), List.take_of_length_le (by simp)]
      rfl
  · exact ⟨by simp [bytesWorld, World.freeze, World.alloc, World.drew, -World.alloc_eq, -World.drew_eq], by simp [bytesWorld, World.freeze, World.alloc, World.drew, -World.alloc_eq, -World.drew_eq],
      by simp [bytesWorld, World.freeze, World.alloc, World.drew, -World.alloc_eq, -World.drew_eq], by rw [bytesWorld_size]; omega, fun k hk => bytesWorld_at_old w 5 s k hk⟩

theorem take_seg {α : Type} (a b c : List α) (n : Nat) (h : (a ++ b).length = n) : (a ++ b ++ c).take n = a ++ b := by
  rw [← h]; exact List.take_left

/-- 'append(b, s...)'. -/
theorem bytes_str (w : World) (B : Nat) (v : Value) (l : List UInt8) (ty : TypeId) (s : ByteArray) (h : ByRow w B v l) (hB : B ≤ w.heap.size) (hs : l.length + s.size ≤ 140737488355328) :
    ∃ v' w', (Builtin.append_ #[67, 9] ty #[v, .string s]).run Tryd.prog w = .ok v' w' ∧ ByRow w' B v' (l ++ s.data.toList) ∧ w.grownBy w' v.ownBlock ∧ (v'.ownBlock = v.ownBlock ∨ v'.ownBlock = some w.heap.size) := by
  obtain ⟨i, hi, hz, h1, h2⟩ := Tryd.infoU8
  have hc := h.cell
  obtain ⟨g, cap, cur, fz, rfl, hg, hh, hfz, hlc, hcm, hcs, htk⟩ := h
  have e0 : (l ++ s.data.toList).length = l.length + s.size := by simp
  by_cases hroom : l.length + s.size ≤ cap
  · have hf := run_firstCells_string (P := Tryd.prog) w 1 s
    obtain ⟨w', e1, e2, e3⟩ := store_cells Tryd.prog g l.length 5 fz (strCells s) 0 cur w hh (by omega) (by rw [strCells_length]; omega) (strCells_oneCell s)
    refine ⟨.slice (some ⟨g, 0, none⟩) (l.length + s.size) cap, w', ?_, ?_, e3, .inl rfl⟩
    · simp [Builtin.append_, run_underlying Tryd.underlying67, run_underlying Tryd.underlying9, sizeOf, typeInfo, hi, h1, Builtin.lenOf, hroom, hf, Addr.add_lit, e1]
    · refine ⟨g, cap, _, fz, by rw [e0], hg, e2, hfz, by omega, hcm, ?_, ?_⟩
      · simp [strCells_length]; omega
      · simp only [Nat.add_zero, htk]
        rw [e0, cellsOf_append, ← strCells_of]
        exact take_seg _ _ _ _ (by simp [cellsOf_length, strCells_length])
  · obtain ⟨g', cap', hv, hcell⟩ := hc
    simp only [Value.slice.injEq, Option.some.injEq, Addr.mk.injEq, and_true, true_and] at hv
    obtain ⟨rfl, rfl⟩ := hv
    have hr := run_append_grow_string (P := Tryd.prog) w 67 9 ty 5 i (.int .u8 0) Tryd.underlying67 Tryd.underlying9 hi hz ⟨g, 0, none⟩ l.length cap (cellsOf l) (by rw [h1]; simp [cellsOf_length]) (fun j u hu => by
      have hj : j < l.length := by
        have := (List.getElem?_eq_some_iff.1 hu).1
        simpa [cellsOf_length] using this
      rw [show (⟨g, 0, none⟩ : Addr).add j = ⟨g, j, none⟩ by simp [Addr.add]; omega, hcell j hj, ← hu]
      simp [cellsOf, hj]) s (by omega) (by omega) (by rw [h2]; exact growslice_fits (by omega) (by omega))
    have hge := grownCap_ge w (l.length + s.size) cap 5
    have hm : grownCap w (l.length + s.size) cap 5 ≤ maxLen := grownCap_le_maxLen w _ _ _ (by simp only [maxLen]; omega)
    refine ⟨_, _, hr, ⟨w.heap.size, _, _, (0, 0), by rw [e0], hB, heap_alloc_new w.drew _, .inr rfl, by omega, hm, ?_, ?_⟩, ⟨rfl, rfl, rfl, by simp, fun k hk _ => heap_alloc_old w.drew _ (by simpa using hk)⟩, .inr rfl⟩
    · have hz1 : (Value.int IntKind.u8 0).cells.size = 1 := rfl
      simp only [Array.size_append, List.size_toArray, size_zeroCells, hz1, cellsOf_length, strCells_length]
      omega
    · simp only [Array.toList_append]
      rw [e0, cellsOf_append, ← strCells_of]
      exact take_seg _ _ _ _ (by simp [cellsOf_length, strCells_length])

/-- 'append(b, c)': the byte lies in a block of its own. -/
theorem bytes_one (w : World) (B : Nat) (v : Value) (l : List UInt8) (ty : TypeId) (a : Addr) (c : UInt8) (cp : Nat) (ha : w.cell? a = some (.int .u8 (c.toNat : Int))) (h : ByRow w B v l) (hB : B ≤ w.heap.size) (hs : l.length + 1 ≤ 140737488355328) :
    ∃ v' w', (Builtin.append_ #[67, 67] ty #[v, .slice (some a) 1 cp]).run Tryd.prog w = .ok v' w' ∧ ByRow w' B v' (l ++ [c]) ∧ w.grownBy w' v.ownBlock ∧ (v'.ownBlock = v.ownBlock ∨ v'.ownBlock = some w.heap.size) := by
  obtain ⟨i, hi, hz, h1, h2⟩ := Tryd.infoU8
  have hc := h.cell
  obtain ⟨g, cap, cur, fz, rfl, hg, hh, hfz, hlc, hcm, hcs, htk⟩ := h
  have e0 : (l ++ [c]).length = l.length + 1 := by simp
  have hnews : ∀ j u, [Value.int .u8 (c.toNat : Int)][j]? = some u → w.cell? (a.add j) = some u := by
    intro j u hu
    match j, hu with
    | 0, hu =>
      simp only [List.getElem?_cons_zero, Option.some.injEq] at hu
      rw [← hu, ← ha]
      congr 1
  have hone : ∀ u ∈ [Value.int .u8 (c.toNat : Int)], u.oneCell' = true := by
    intro u hu
    simp only [List.mem_singleton] at hu
    subst hu
    rfl
  by_cases hroom : l.length + 1 ≤ cap
  · have hf := run_firstCells_some (P := Tryd.prog) w i.size 1 a 1 cp [Value.int .u8 (c.toNat : Int)] (by rw [h1]; rfl) hnews
    obtain ⟨w', e1, e2, e3⟩ := store_cells Tryd.prog g l.length 5 fz [Value.int .u8 (c.toNat : Int)] 0 cur w hh (by omega) (by simp; omega) hone
    refine ⟨.slice (some ⟨g, 0, none⟩) (l.length + 1) cap, w', ?_, ?_, e3, .inl rfl⟩
    · rw [h1] at hf
      simp [Builtin.append_, run_underlying Tryd.underlying67, sizeOf, typeInfo, hi, h1, Builtin.lenOf, hroom, hf, Addr.add_lit, e1]
    · refine ⟨g, cap, _, fz, by rw [e0], hg, e2, hfz, by omega, hcm, ?_, ?_⟩
      · simp; omega
      · simp only [Nat.add_zero, htk]
        rw [e0, cellsOf_append]
        exact take_seg _ _ _ _ (by simp [cellsOf_length])
  · obtain ⟨g', cap', hv, hcell⟩ := hc
    simp only [Value.slice.injEq, Option.some.injEq, Addr.mk.injEq, and_true, true_and] at hv
    obtain ⟨rfl, rfl⟩ := hv
    have hr := run_append_grow (P := Tryd.prog) w 67 ty 5 i (.int .u8 0) Tryd.underlying67 hi hz ⟨g, 0, none⟩ l.length cap (cellsOf l) (by rw [h1]; simp [cellsOf_length]) (fun j u hu => by
      have hj : j < l.length := by
        have := (List.getElem?_eq_some_iff.1 hu).1
        simpa [cellsOf_length] using this
      rw [show (⟨g, 0, none⟩ : Addr).add j = ⟨g, j, none⟩ by simp [Addr.add]; omega, hcell j hj, ← hu]
      simp [cellsOf, hj]) a 1 cp [Value.int .u8 (c.toNat : Int)] (by rw [h1]; rfl) hnews (by omega) (by omega) (by rw [h2]; exact growslice_fits (by omega) (by omega))
    have hge := grownCap_ge w (l.length + 1) cap 5
    have hm : grownCap w (l.length + 1) cap 5 ≤ maxLen := grownCap_le_maxLen w _ _ _ (by simp only [maxLen]; omega)
    refine ⟨_, _, hr, ⟨w.heap.size, _, _, (0, 0), by rw [e0], hB, heap_alloc_new w.drew _, .inr rfl, by omega, hm, ?_, ?_⟩, ⟨rfl, rfl, rfl, by simp, fun k hk _ => heap_alloc_old w.drew _ (by simpa using hk)⟩, .inr rfl⟩
    · have hz1 : (Value.int IntKind.u8 0).cells.size = 1 := rfl
      simp only [Array.size_append, List.size_toArray, size_zeroCells, hz1, cellsOf_length]
      simp
      omega
    · simp only [Array.toList_append]
      rw [e0, cellsOf_append]
      exact take_seg _ _ _ _ (by simp [cellsOf_length])

/-- 'string(b)'. -/
theorem bytes_back (w : World) (B : Nat) (v : Value) (l : List UInt8) (h : ByRow w B v l) : (convert 67 9 v).run Tryd.prog w = .ok (.string ⟨l.toArray⟩) w := by
  obtain ⟨g, cap, rfl, hc⟩ := h.cell
  exact run_convert_bytes_back (P := Tryd.prog) w 67 9 5 ⟨g, 0, none⟩ cap l Tryd.underlying67 Tryd.underlying5 Tryd.underlying9 (fun j hj => by
    rw [show (⟨g, 0, none⟩ : Addr).add j = ⟨g, j, none⟩ by simp [Addr.add]; omega]
    exact hc j hj)
end Go.Proofs.YticmoofjjikefaaDoor
