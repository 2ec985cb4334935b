/-
  The document's Reached.
-/
import Derived.Test.YtidgppghakmkaaaJa
set_option linter.unusedVariables false
set_option linter.unusedSimpArgs false
namespace Go.Proofs.Ytidgppghakmkaaa
open scoped Classical
open Go.RowKit Go.Shelf Hp Go.Sort
attribute [local simp] wide_fn

namespace Hp
/-- While one looks for what is reached: of the thing kk the fields ahead of jj were looked at. -/
structure RI (T : List Th) (r : Nat → Cl) (ro : Nat) (inn : Nat → Bool) (td : List Nat) (kk jj : Nat) : Prop where
  si : ∀ i, inn i = true → Rch T (roL r) i ∧ i < T.length
  st : ∀ i ∈ td, Rch T (roL r) i ∧ i < T.length
  cl : ∀ i t, T[i]? = some t → inn i = true → ∀ j, j < t.l.length → (i = kk → j < jj) → (clOf T i j).ptr = true → ∀ k, Is T (clOf T i j).n k → inn k = true ∨ k ∈ td
  rt : ∀ j, j < ro → (r j).ptr = true → ∀ k, Is T (r j).n k → inn k = true ∨ k ∈ td
theorem RI.start (T : List Th) (r : Nat → Cl) : RI T r 0 (fun _ => false) [] 0 0 :=
  ⟨fun i h => (by cases h), fun i h => (by simp at h), fun i t ht h => (by cases h), fun j h => (by omega)⟩
theorem RI.root {T : List Th} {r : Nat → Cl} {ro : Nat} {inn : Nat → Bool} {td : List Nat} (h : RI T r ro inn td 0 0) (h6 : ro < 6) (hp : (r ro).ptr = true) {k : Nat} {t : Th} (ht : T[k]? = some t) (hn : (r ro).n = (ad T k : Nat)) (hi : ∀ i, inn i = false) : RI T r (ro + 1) inn (td ++ [k]) 0 0 := by
  have hR : Rch T (roL r) k := .root ((mem_roL r).2 ⟨ro, h6, rfl⟩) hp ⟨t, ht, hn⟩
  refine ⟨h.si, fun i hi => ?_, fun i t ht h1 => (by rw [hi i] at h1; cases h1), fun j hj hjp k' hk' => ?_⟩
  · rcases List.mem_append.1 hi with h1 | h1
    · exact h.st i h1
    · obtain rfl : i = k := by simpa using h1
      exact ⟨hR, (List.getElem?_eq_some_iff.1 ht).1⟩
  · by_cases e : j = ro
    · subst e
      rw [hk'.one ⟨t, ht, hn⟩]
      exact .inr (by simp)
    · rcases h.rt j (by omega) hjp k' hk' with h1 | h1
      · exact .inl h1
      · exact .inr (List.mem_append_left _ h1)
theorem RI.skipRoot {T : List Th} {r : Nat → Cl} {ro : Nat} {inn : Nat → Bool} {td : List Nat} (h : RI T r ro inn td 0 0) (hp : (r ro).ptr = false) : RI T r (ro + 1) inn td 0 0 :=
  ⟨h.si, h.st, h.cl, fun j hj hjp k hk => by
    by_cases e : j = ro
    · subst e; rw [hp] at hjp; cases hjp
    · exact h.rt j (by omega) hjp k hk⟩
/-- All fields of all that is in were looked at. -/
def RIw (T : List Th) (r : Nat → Cl) (inn : Nat → Bool) (td : List Nat) : Prop := RI T r 6 inn td T.length 0
theorem RI.wide {T : List Th} {r : Nat → Cl} {inn : Nat → Bool} {td : List Nat} (h : RI T r 6 inn td 0 0) (hi : ∀ i, inn i = false) : RIw T r inn td := ⟨h.si, h.st, fun i t ht h1 => (by rw [hi i] at h1; cases h1), h.rt⟩
theorem RIw.old {T : List Th} {r : Nat → Cl} {inn : Nat → Bool} {td : List Nat} {k : Nat} (h : RIw T r inn (td ++ [k])) (hk : inn k = true) : RIw T r inn td := by
  refine ⟨h.si, fun i hi => h.st i (List.mem_append_left _ hi), fun i t ht h1 j hj hjj hp k' hk' => ?_, fun j hj hp k' hk' => ?_⟩
  · rcases h.cl i t ht h1 j hj hjj hp k' hk' with h2 | h2
    · exact .inl h2
    · rcases List.mem_append.1 h2 with h3 | h3
      · exact .inr h3
      · obtain rfl : k' = k := by simpa using h3
        exact .inl hk
  · rcases h.rt j hj hp k' hk' with h2 | h2
    · exact .inl h2
    · rcases List.mem_append.1 h2 with h3 | h3
      · exact .inr h3
      · obtain rfl : k' = k := by simpa using h3
        exact .inl hk
def setB (inn : Nat → Bool) (k : Nat) : Nat → Bool := fun i => if i = k then true else inn i
theorem RIw.enter {T : List Th} {r : Nat → Cl} {inn : Nat → Bool} {td : List Nat} {k : Nat} (h : RIw T r inn (td ++ [k])) : RI T r 6 (setB inn k) td k 0 := by
  have hk := h.st k (by simp)
  have up : ∀ x, (inn x = true ∨ x ∈ td ++ [k]) → setB inn k x = true ∨ x ∈ td := fun x hx => by
    unfold setB
    by_cases e : x = k
    · exact .inl (by simp [e])
    · rcases hx with h1 | h1
      · exact .inl (by simp [h1])
      · rcases List.mem_append.1 h1 with h2 | h2
        · exact .inr h2
        · exact absurd (by simpa using h2) e
  refine ⟨fun i hi => ?_, fun i hi => h.st i (List.mem_append_left _ hi), fun i t ht h1 j hj hjj hp k' hk' => ?_, fun j hj hp k' hk' => up _ (h.rt j hj hp k' hk')⟩
  · by_cases e : i = k
    · rw [e]; exact hk
    · simp [setB, e] at hi
      exact h.si i hi
  · by_cases e : i = k
    · exact absurd (hjj e) (by omega)
    · simp [setB, e] at h1
      exact up _ (h.cl i t ht h1 j hj (fun e2 => by have := (List.getElem?_eq_some_iff.1 ht).1; omega) hp k' hk')
theorem RI.field {T : List Th} {r : Nat → Cl} {inn : Nat → Bool} {td : List Nat} {kk jj k : Nat} {t u : Th} (h : RI T r 6 inn td kk jj) (ht : T[kk]? = some t) (hj : jj < t.l.length) (hin : inn kk = true) (hp : (clOf T kk jj).ptr = true) (hu : T[k]? = some u) (hn : (clOf T kk jj).n = (ad T k : Nat)) : RI T r 6 inn (td ++ [k]) kk (jj + 1) := by
  have hR : Rch T (roL r) k := .step (h.si kk hin).1 ht hj hp ⟨u, hu, hn⟩
  refine ⟨h.si, fun i hi => ?_, fun i t' ht' h1 j hj' hjj hp' k' hk' => ?_, fun j hj hp k' hk' => ?_⟩
  · rcases List.mem_append.1 hi with h1 | h1
    · exact h.st i h1
    · obtain rfl : i = k := by simpa using h1
      exact ⟨hR, (List.getElem?_eq_some_iff.1 hu).1⟩
  · by_cases e : i = kk ∧ j = jj
    · obtain ⟨rfl, rfl⟩ := e
      rw [hk'.one ⟨u, hu, hn⟩]
      exact .inr (by simp)
    · rcases h.cl i t' ht' h1 j hj' (fun e2 => by have := hjj e2; have : j ≠ jj := fun e3 => e ⟨e2, e3⟩; omega) hp' k' hk' with h2 | h2
      · exact .inl h2
      · exact .inr (List.mem_append_left _ h2)
  · rcases h.rt j hj hp k' hk' with h2 | h2
    · exact .inl h2
    · exact .inr (List.mem_append_left _ h2)
theorem RI.plain {T : List Th} {r : Nat → Cl} {inn : Nat → Bool} {td : List Nat} {kk jj : Nat} (h : RI T r 6 inn td kk jj) (hp : (clOf T kk jj).ptr = false) : RI T r 6 inn td kk (jj + 1) :=
  ⟨h.si, h.st, fun i t ht h1 j hj hjj hp' k hk => h.cl i t ht h1 j hj (fun e => by
    have := hjj e
    have : j ≠ jj := fun e2 => by subst e2; subst e; rw [hp] at hp'; cases hp'
    omega) hp' k hk, h.rt⟩
theorem RI.out {T : List Th} {r : Nat → Cl} {inn : Nat → Bool} {td : List Nat} {kk : Nat} {t : Th} (h : RI T r 6 inn td kk t.l.length) (ht : T[kk]? = some t) : RIw T r inn td :=
  ⟨h.si, h.st, fun i t' ht' h1 j hj _ hp k hk => h.cl i t' ht' h1 j hj (fun e => by subst e; obtain rfl := Option.some.inj (ht.symm.trans ht'); exact hj) hp k hk, h.rt⟩
theorem RIw.done {T : List Th} {r : Nat → Cl} {inn : Nat → Bool} (h : RIw T r inn []) : inn = mR T r := by
  funext i
  have h1 : inn i = true ↔ Rch T (roL r) i := by
    refine ⟨fun hi => (h.si i hi).1, fun hi => ?_⟩
    induction hi with
    | root hc hp hk =>
      obtain ⟨j, hj, rfl⟩ := (mem_roL r).1 hc
      rcases h.rt j hj hp _ hk with h2 | h2
      · exact h2
      · simp at h2
    | step _ ht hj hp hk ih =>
      rcases h.cl _ _ ht ih _ hj (fun e => by have := (List.getElem?_eq_some_iff.1 ht).1; omega) hp _ hk with h2 | h2
      · exact h2
      · simp at h2
  rw [Bool.eq_iff_iff, h1, mR_iff]
/-- How much is left. -/
def lenAt (T : List Th) (i : Nat) : Nat := (thOf T i).l.length + 1
def leftW (T : List Th) (inn : Nat → Bool) (n : Nat) : Nat := ((List.range n).map fun i => if inn i then 0 else lenAt T i).sum
theorem leftW_set {T : List Th} {inn : Nat → Bool} {k n : Nat} (hk : inn k = false) (hn : k < n) : leftW T (setB inn k) n + lenAt T k = leftW T inn n := by
  induction n with
  | zero => omega
  | succ n ih =>
    unfold leftW at *
    rw [List.range_succ, List.map_append, List.map_append, List.sum_append, List.sum_append]
    by_cases e : k = n
    · subst e
      have e1 : (List.range k).map (fun i => if setB inn k i then 0 else lenAt T i) = (List.range k).map (fun i => if inn i then 0 else lenAt T i) := by
        apply List.map_congr_left
        intro x hx
        have := List.mem_range.1 hx
        simp [setB, show ¬ x = k by omega]
      rw [e1]
      simp [setB, hk]
    · have := ih (by omega)
      simp [setB, Ne.symm e] at this ⊢
      omega
/-- A row of truth values. -/
def bRow (inn : Nat → Bool) (n : Nat) : Array Value := Array.ofFn (n := n) fun i => .bool (inn i.1)
theorem bRow_at (inn : Nat → Bool) {n i : Nat} (h : i < n) : (bRow inn n)[i]? = some (.bool (inn i)) := by
  unfold bRow
  rw [Array.getElem?_ofFn]
  simp [h]
theorem bRow_all (inn : Nat → Bool) (n i : Nat) : (bRow inn n)[i]? = if i < n then some (.bool (inn i)) else none := by
  unfold bRow
  rw [Array.getElem?_ofFn]
  split <;> rfl
theorem bRow_size (inn : Nat → Bool) (n : Nat) : (bRow inn n).size = n := by simp [bRow]
theorem bRow_set (inn : Nat → Bool) {n k : Nat} (hk : k < n) : (bRow inn n).setIfInBounds k (.bool true) = bRow (setB inn k) n := by
  apply Array.ext_getElem?
  intro i
  rw [Array.getElem?_setIfInBounds, bRow_all, bRow_all, bRow_size]
  by_cases e : k = i
  · subst e
    simp [hk, setB]
  · by_cases h : i < n
    · simp [e, h, setB, Ne.symm e]
    · simp [e, h]
def unB : Value → Bool
  | .bool b => b
  | _ => false
/-- The same, out of memory. -/
def leftM (T : List Th) (ib : Nat) (w : World) : Nat := match w.heap[ib]? with
  | some (.cells a _ _) => leftW T (fun i => unB (a[i]?.getD undef)) T.length
  | _ => 0
end Hp
theorem leftM_at {T : List Th} {ib : Nat} {w : World} {inn : Nat → Bool} {ty : TypeId} (h : w.heap[ib]? = some (.cells (bRow inn T.length) ty (0, 0))) : leftM T ib w = leftW T inn T.length := by
  unfold leftM
  rw [h]
  dsimp only
  unfold leftW
  congr 1
  apply List.map_congr_left
  intro x hx
  have := List.mem_range.1 hx
  have e : unB ((bRow inn T.length)[x]?.getD undef) = inn x := by rw [bRow_at inn this]; rfl
  simp only [e]
def lenV : Value → Nat
  | .slice _ n _ => n
  | _ => 0
/-- A row of numbers, and cut at its end. -/
theorem own_cut {w : World} {base : Nat} {e : TypeId} {a : Option Addr} {n cap : Nat} {xs : List Value} {x : Value} (h : w.ownsRow base e 1 (.slice a (n + 1) cap) (n + 1) (xs ++ [x])) : w.ownsRow base e 1 (.slice a n cap) n xs := by
  rcases h.2 with ⟨h1, _⟩ | ⟨g', cap', cur, h1, hb, hg, h2, h3, h4, h5⟩
  · cases h1
  · cases h1
    have hl := h.1
    simp at hl
    refine ⟨by simp [hl], .inr ⟨g', cap, cur, rfl, hb, hg, by omega, h3, h4, ?_⟩⟩
    have h6 := congrArg (List.take (n * 1)) h5
    rw [List.take_take] at h6
    simp only [Nat.mul_one] at h6 ⊢
    rw [show min n (n + 1) = n by omega] at h6
    rw [h6, List.take_append_of_le_length (by omega), List.take_of_length_le (by omega)]
theorem Try.info3 : (Try.prog.info? 3).map (fun i => (i.zero, i.size, i.bytes)) = some (some (.int .i64 0), 1, 8) := by kernel_rfl
theorem Try.info4 : (Try.prog.info? 4).map (fun i => (i.zero, i.size, i.bytes)) = some (some (.bool false), 1, 1) := by kernel_rfl
/-- Where the roots lie, as the document is told. -/
def PlM (w : World) (pb cb : Nat) : Prop := ∀ i, i < 6 → w.cell? ⟨pb, i, none⟩ = some (.pointer (some ⟨cb, i * 2, none⟩))
theorem PlM.keep {w w' : World} {pb cb : Nat} (h : PlM w pb cb) (hc : w'.heap[pb]? = w.heap[pb]?) : PlM w' pb cb := fun i hi => by
  rw [← h i hi]
  exact World.cell?_of_block hc
theorem madeB (n : Nat) : madeCells (#[.bool false] : Array Value) n = bRow (fun _ => false) n := by
  apply Array.ext_getElem?
  intro i
  rw [bRow_all]
  by_cases h : i < n <;> simp [madeCells, h, Nat.mod_one]
/-- What lies there while one looks. -/
structure RcM (w wr : World) (T : List Th) (inn : Nat → Bool) (td : List Nat) (v : Value) : Prop where
  ch : Ch (fun _ => False) w wr
  inr : wr.heap[w.heap.size]? = some (.cells (bRow inn T.length) 4 (0, 0))
  row : wr.ownsRow 0 3 1 v td.length (td.map fun k => .int .i64 (k : Nat))
  nin : v.ownBlock ≠ some w.heap.size
  new : ∀ k, v.ownBlock = some k → w.heap.size ≤ k
theorem ownsRow_succ' {w : World} {base : Nat} {e : TypeId} {size : Nat} {v : Value} {n : Nat} {xs : List Value} (h : w.ownsRow base e size v (n + 1) xs) : ∃ g cap, v = .slice (some ⟨g, 0, none⟩) (n + 1) cap := by
  obtain ⟨a, cap, rfl, h1, _⟩ := row_slice h
  rcases h1 with h1 | ⟨g, rfl⟩
  · omega
  · exact ⟨g, cap, rfl⟩
/-- One is pushed. -/
theorem RcM.push {w wr w1 : World} {T : List Th} {inn : Nat → Bool} {td : List Nat} {v v' : Value} (h : RcM w wr T inn td v) (o : Obj) (k : Nat) (hrow : w1.ownsRow 0 3 1 v' (td.length + 1) (td.map (fun k => Value.int .i64 ((k : Nat) : Int)) ++ [.int .i64 (k : Nat)])) (hg : (wr.alloc o).grownBy w1 v.ownBlock) (hb : v'.ownBlock = v.ownBlock ∨ v'.ownBlock = some (wr.alloc o).heap.size) : RcM w w1 T inn (td ++ [k]) v' := by
  have hsz := h.ch.size
  have hca : Ch (fun _ => False) wr (wr.alloc o) := (Ch.refl _ wr).al _
  have hc1 : Ch (fun j => v.ownBlock = some j) wr w1 := app_ch hca hg
  have hil := (Array.getElem?_eq_some_iff.1 h.inr).1
  refine ⟨h.ch.trans hc1 (fun j hj => .inr (h.new j hj)), (hc1.same _ hil h.nin).trans h.inr, ?_, ?_, ?_⟩
  · simpa using hrow
  · rcases hb with e | e
    · rw [e]; exact h.nin
    · rw [e]; intro h2; have := Option.some.inj h2; simp at this; omega
  · intro j hj
    rcases hb with e | e
    · exact h.new j (e.symm.trans hj)
    · rw [e] at hj; have := Option.some.inj hj; simp at this; omega
theorem leftW_none (T : List Th) : leftW T (fun _ => false) T.length = used T := by
  unfold leftW used
  congr 1
  apply List.ext_getElem?
  intro i
  rw [List.getElem?_map, List.getElem?_map]
  by_cases h : i < T.length
  · rw [List.getElem?_range h, List.getElem?_eq_getElem h]
    simp [lenAt, thOf, h, Th.size]
  · rw [List.getElem?_eq_none (by simp; omega), List.getElem?_eq_none (by omega)]
    rfl
theorem RcM.quiet {w wr wr' : World} {T : List Th} {inn : Nat → Bool} {td : List Nat} {v : Value} (h : RcM w wr T inn td v) (hc : Ch (fun _ => False) wr wr') : RcM w wr' T inn td v :=
  ⟨h.ch.trans hc (fun _ h => .inl h), (hc.same _ (Array.getElem?_eq_some_iff.1 h.inr).1 (fun h => h)).trans h.inr, ownsRow_keep h.row (fun k hk => hc.same k (ownsRow_lt h.row hk) (fun h => h)), h.nin, h.new⟩
theorem RcM.pop {w wr : World} {T : List Th} {inn : Nat → Bool} {td : List Nat} {k g n cap : Nat} (h : RcM w wr T inn (td ++ [k]) (.slice (some ⟨g, 0, none⟩) n cap)) (hr : wr.ownsRow 0 3 1 (.slice (some ⟨g, 0, none⟩) td.length cap) td.length (td.map fun k => .int .i64 (k : Nat))) : RcM w wr T inn td (.slice (some ⟨g, 0, none⟩) td.length cap) :=
  ⟨h.ch, h.inr, hr, h.nin, h.new⟩
theorem RcM.mark {w wr : World} {T : List Th} {inn : Nat → Bool} {td : List Nat} {v : Value} (h : RcM w wr T inn td v) {k : Nat} (hk : k < T.length) : RcM w (wr.setCell ⟨w.heap.size, k, none⟩ (.bool true)) T (setB inn k) td v := by
  have hc : Ch (fun j => j = w.heap.size) wr (wr.setCell ⟨w.heap.size, k, none⟩ (.bool true)) := Ch.setCell _ _ _ rfl
  refine ⟨h.ch.trans hc (fun j hj => .inr (by omega)), ?_, ownsRow_keep h.row (fun j hj => hc.same j (ownsRow_lt h.row hj) (fun e => h.nin (by rw [hj, e]))), h.nin, h.new⟩
  rw [blk_set h.inr, bRow_set inn hk]
theorem DM.field {w : World} {rb N : Nat} {T : List Th} {bs : Nat → Nat} {lv : Value} (h : DM w rb N T bs lv) {i j : Nat} {t : Th} (ht : T[i]? = some t) (hj : j < t.l.length) : w.cell? ⟨bs i, j * 2, none⟩ = some (.bool (clOf T i j).ptr) ∧ w.cell? ⟨bs i, j * 2 + 1, none⟩ = some (.int .i64 (clOf T i j).n) ∧ ∀ q, w.frozen? ⟨bs i, q, none⟩ = false := by
  have hf := h.fld i t ht
  refine ⟨?_, ?_, fun q => ?_⟩
  · unfold World.cell?
    rw [hf]
    exact rowK_ptr _ hj
  · unfold World.cell?
    rw [hf]
    exact rowK_num _ hj
  · unfold World.frozen?
    rw [hf]
    rfl
end Go.Proofs.Ytidgppghakmkaaa
