/-
  Decode's state: how it begins; what it comes to.
-/
import Derived.Test.YticmoofjjikefaaDoorMDm
set_option linter.unusedVariables false
set_option linter.unusedSimpArgs false
namespace Go.Proofs.YticmoofjjikefaaDoor
open Go.RowKit

def dg0 (b cb t2 t3 : Nat) (r : Cd.Rd) : Dg := { b := b, cb := cb, t2 := t2, t3 := t3, r := r, sh := [], vo := .slice none 0 0, vh := .slice none 0 0, vf := .slice none 0 0, os := [], hs := [], fs := [], D := fun _ => False, X := fun _ => False, Y := fun _ => False }
theorem dm_start {w0 W : World} {s : List UInt8} {b cb t2 t3 : Nat} {r : Cd.Rd} (hch : Ch (fun _ => False) w0 W) (o1 : w0.heap.size ≤ t2) (o2 : t2 < t3) (o3 : t3 < b) (o4 : b < cb) (hr : RdM W b s r) (hp : r.pos ≤ 4000003)
    (hc : W.heap[cb]? = some (.cells #[.string ⟨#[]⟩, .slice none 0 0, .slice none 0 0, .slice none 0 0] 26 (0, 0))) (h2 : W.heap[t2]? = some (.cells #[.string ⟨#[]⟩, .slice none 0 0, .slice none 0 0, .slice none 0 0] 26 (0, 0))) (h3 : W.heap[t3]? = some (.cells #[.int .i64 0, .int .i64 0] 29 (0, 0))) :
    Dm w0 s (dg0 b cb t2 t3 r) W := by
  have hcl : cb < W.heap.size := (Array.getElem?_eq_some_iff.1 hc).1
  have key : ∀ i k, (dg0 b cb t2 t3 r).O i k → (i = 0 ∧ k = b) ∨ (i = 1 ∧ k = cb) ∨ (i = 8 ∧ k = t2) ∨ (i = 9 ∧ k = t3) := fun i k hk => by
    unfold Dg.O at hk
    split at hk
    · exact .inl ⟨rfl, hk⟩
    · exact .inr (.inl ⟨rfl, hk⟩)
    · cases hk
    · cases hk
    · cases hk
    · exact hk.elim
    · exact hk.elim
    · exact hk.elim
    · exact .inr (.inr (.inl ⟨rfl, hk⟩))
    · exact .inr (.inr (.inr ⟨rfl, hk⟩))
    · exact hk.elim
  refine ⟨⟨fun i k hk => ?_, fun i j k h1 h2 => ?_, fun i k hk => ?_, hch⟩, hr, hp, hc, World.ownsRow_nil _ _ _ _, World.ownsRow_nil _ _ _ _, World.ownsRow_nil _ _ _ _, fun x hx => ?_, fun x hx => ?_, h2, h3⟩
  · have := key i k hk; omega
  · have := key i k h1; have := key j k h2; omega
  · have := key i k hk; omega
  · have hx2 : x ∈ ([] : List (Value × Cd.Han)) := hx
    simp at hx2
  · have hx2 : x ∈ ([] : List (Value × Cd.Fun)) := hx
    simp at hx2
theorem Dm.shape {w0 w : World} {s : List UInt8} {g : Dg} (h : Dm w0 s g w) (sh : List UInt8) : Dm w0 s { g with sh := sh } (w.setCell ⟨g.cb, 0, none⟩ (.string ⟨sh.toArray⟩)) := by
  have hc : Ch (g.O 1) w (w.setCell ⟨g.cb, 0, none⟩ (.string ⟨sh.toArray⟩)) := Ch.setCell _ _ _ rfl
  have hR := h.rest 1 hc
  refine ⟨(h.own.step 1 hc (fun k hk => .inl hk) (fun k hk => Nat.lt_of_lt_of_le (h.own.lt 1 k hk) hc.size)).as (fun i k hk => ?_), (hR.s 0 (by omega) _ rfl).trans h.rd, h.pos, ?_, ownsRow_keep h.ro (hR.s 2 (by omega)), ownsRow_keep h.rh (hR.s 3 (by omega)), ownsRow_keep h.rf (hR.s 4 (by omega)),
    fun x hx => ⟨ownsRow_keep (h.hd x hx).1 (fun k hk => hR.s 5 (by omega) k ((h.hd x hx).2 k hk)), (h.hd x hx).2⟩, fun x hx => ⟨ownsRow_keep (h.fd x hx).1 (fun k hk => hR.s 5 (by omega) k ((h.fd x hx).2 k hk)), (h.fd x hx).2⟩, (hR.s 8 (by omega) _ rfl).trans h.c2, (hR.s 9 (by omega) _ rfl).trans h.c3⟩
  · by_cases e : i = 1
    · subst e; rw [upd_same]; exact hk
    · rw [upd_other _ _ e]
      have : Dg.O { g with sh := sh } i = Dg.O g i := by unfold Dg.O; split <;> rfl
      rw [this] at hk
      exact hk
  · rw [blk_set h.c]
    rfl

theorem cells_at {α : Type} (C : α → List Value) (z : Nat) (hC : ∀ x, (C x).length = z) : ∀ (l : List α) (i j : Nat) (x : α), l[i]? = some x → j < z → (l.flatMap C)[i * z + j]? = (C x)[j]? := by
  intro l
  induction l with
  | nil => intro i j x h; simp at h
  | cons a l ih =>
    intro i j x h hj
    rw [List.flatMap_cons]
    cases i with
    | zero =>
      obtain rfl : a = x := by simpa using h
      rw [Nat.zero_mul, Nat.zero_add, List.getElem?_append_left (by rw [hC]; exact hj)]
    | succ i =>
      rw [List.getElem?_append_right (by rw [hC, Nat.succ_mul]; omega), hC]
      have := ih i j x (by simpa using h) hj
      rw [← this]
      congr 1
      rw [Nat.succ_mul]
      omega
theorem ints_row {w : World} {u : Value} {l : List Int} (h : w.ownsRow 0 3 1 u l.length (l.map (Value.int .i64))) : IntsM w u l := by
  obtain ⟨a, c, rfl, ha, hc⟩ := row_slice h
  refine ⟨a, c, rfl, hc, fun hne => ?_⟩
  obtain ⟨g, rfl⟩ : ∃ g, a = some ⟨g, 0, none⟩ := by
    rcases ha with e | e
    · exact absurd (List.length_eq_zero_iff.1 e) hne
    · exact e
  refine ⟨g, 0, rfl, fun i x hx => ?_⟩
  rw [Nat.zero_add]
  exact row_cell h i _ (by rw [List.getElem?_map, hx]; rfl)
theorem inss_row {w : World} {u : Value} {l : List Cd.Ins} (h : w.ownsRow 0 64 4 u l.length (l.flatMap insC)) : InssM w u l := by
  obtain ⟨a, c, rfl, ha, hc⟩ := row_slice h
  refine ⟨a, c, rfl, hc, fun hne => ?_⟩
  obtain ⟨g, rfl⟩ : ∃ g, a = some ⟨g, 0, none⟩ := by
    rcases ha with e | e
    · exact absurd (List.length_eq_zero_iff.1 e) hne
    · exact e
  refine ⟨g, 0, rfl, fun i x hx => ?_⟩
  have k := fun j u (hj : j < 4) (hu : (insC x)[j]? = some u) => row_cell h (i * 4 + j) u ((cells_at insC 4 (fun _ => rfl) l i j x hx hj).trans hu)
  simp only [Nat.zero_add]
  exact ⟨k 0 _ (by omega) rfl, k 1 _ (by omega) rfl, k 2 _ (by omega) rfl, k 3 _ (by omega) rfl⟩
theorem ops_row {w : World} {u : Value} {l : List Cd.Op} (h : w.ownsRow 0 56 2 u l.length (l.flatMap opC)) : OpsM w u l := by
  obtain ⟨a, c, rfl, ha, hc⟩ := row_slice h
  refine ⟨a, c, rfl, hc, fun hne => ?_⟩
  obtain ⟨g, rfl⟩ : ∃ g, a = some ⟨g, 0, none⟩ := by
    rcases ha with e | e
    · exact absurd (List.length_eq_zero_iff.1 e) hne
    · exact e
  refine ⟨g, 0, rfl, fun i x hx => ?_⟩
  have k := fun j u (hj : j < 2) (hu : (opC x)[j]? = some u) => row_cell h (i * 2 + j) u ((cells_at opC 2 (fun _ => rfl) l i j x hx hj).trans hu)
  simp only [Nat.zero_add]
  exact ⟨k 0 _ (by omega) rfl, k 1 _ (by omega) rfl⟩
theorem hans_row {w : World} {u : Value} {l : List (Value × Cd.Han)} (h : w.ownsRow 0 59 2 u l.length (l.flatMap hanC)) (hd : ∀ x ∈ l, w.ownsRow 0 3 1 x.1 x.2.ops.length (x.2.ops.map (Value.int .i64))) : HansM w u (l.map Prod.snd) := by
  obtain ⟨a, c, rfl, ha, hc⟩ := row_slice h
  refine ⟨a, c, by simp, by simpa using hc, fun hne => ?_⟩
  obtain ⟨g, rfl⟩ : ∃ g, a = some ⟨g, 0, none⟩ := by
    rcases ha with e | e
    · exact absurd (by rw [List.length_eq_zero_iff.1 e]; rfl) hne
    · exact e
  refine ⟨g, 0, rfl, fun i x hx => ?_⟩
  rw [List.getElem?_map] at hx
  obtain ⟨y, hy, rfl⟩ := Option.map_eq_some_iff.1 hx
  have k := fun j u (hj : j < 2) (hu : (hanC y)[j]? = some u) => row_cell h (i * 2 + j) u ((cells_at hanC 2 (fun _ => rfl) l i j y hy hj).trans hu)
  simp only [Nat.zero_add]
  exact ⟨k 0 _ (by omega) rfl, y.1, k 1 _ (by omega) rfl, ints_row (hd y (List.mem_of_getElem? hy))⟩
theorem funs_row {w : World} {u : Value} {l : List (Value × Cd.Fun)} (h : w.ownsRow 0 62 3 u l.length (l.flatMap funC)) (hd : ∀ x ∈ l, w.ownsRow 0 64 4 x.1 x.2.ins.length (x.2.ins.flatMap insC)) : FunsM w u (l.map Prod.snd) := by
  obtain ⟨a, c, rfl, ha, hc⟩ := row_slice h
  refine ⟨a, c, by simp, by simpa using hc, fun hne => ?_⟩
  obtain ⟨g, rfl⟩ : ∃ g, a = some ⟨g, 0, none⟩ := by
    rcases ha with e | e
    · exact absurd (by rw [List.length_eq_zero_iff.1 e]; rfl) hne
    · exact e
  refine ⟨g, 0, rfl, fun i x hx => ?_⟩
  rw [List.getElem?_map] at hx
  obtain ⟨y, hy, rfl⟩ := Option.map_eq_some_iff.1 hx
  have k := fun j u (hj : j < 3) (hu : (funC y)[j]? = some u) => row_cell h (i * 3 + j) u ((cells_at funC 3 (fun _ => rfl) l i j y hy hj).trans hu)
  simp only [Nat.zero_add]
  exact ⟨k 0 _ (by omega) rfl, k 1 _ (by omega) rfl, y.1, k 2 _ (by omega) rfl, inss_row (hd y (List.mem_of_getElem? hy))⟩
/-- The code that was made, where the results' blocks alone were turned. -/
theorem Dm.code {w0 w w' : World} {s : List UInt8} {g : Dg} (h : Dm w0 s g w) (hc : Ch (fun k => k = g.t2 ∨ k = g.t3) w w') : CodeM w' g.vo g.vh g.vf ⟨g.sh, g.os, g.hs.map Prod.snd, g.fs.map Prod.snd⟩ := by
  have hs : ∀ j, j < 8 → ∀ k, g.O j k → w'.heap[k]? = w.heap[k]? := fun j hj k hk => hc.same k (h.own.lt j k hk) (fun e => by
    rcases e with e | e
    · have := h.own.dj j 8 k hk e; omega
    · have := h.own.dj j 9 k hk e; omega)
  exact ⟨ops_row (ownsRow_keep h.ro (hs 2 (by omega))), hans_row (ownsRow_keep h.rh (hs 3 (by omega))) (fun x hx => ownsRow_keep (h.hd x hx).1 (fun k hk => hs 5 (by omega) k ((h.hd x hx).2 k hk))), funs_row (ownsRow_keep h.rf (hs 4 (by omega))) (fun x hx => ownsRow_keep (h.fd x hx).1 (fun k hk => hs 5 (by omega) k ((h.fd x hx).2 k hk)))⟩
theorem code_nil (w : World) : CodeM w (.slice none 0 0) (.slice none 0 0) (.slice none 0 0) ⟨[], [], [], []⟩ :=
  ⟨⟨none, 0, rfl, Nat.le_refl _, fun h => absurd rfl h⟩, ⟨none, 0, rfl, Nat.le_refl _, fun h => absurd rfl h⟩, ⟨none, 0, rfl, Nat.le_refl _, fun h => absurd rfl h⟩⟩
theorem head_pos (s : List UInt8) : ∀ (n : Nat) (r : Cd.Rd), (Cd.Rd.head s n r).pos = r.pos := by
  intro n
  induction n with
  | zero => intro r; rfl
  | succ n ih =>
    intro r
    rw [head_succ, ih]
    unfold hd3
    split
    · exact no_pos _ _ _
    · split
      · rfl
      · exact no_pos _ _ _
    · rfl
end Go.Proofs.YticmoofjjikefaaDoor
