/-
  What the scan of the program's Tokens keeps in memory from round to round.
-/
import Derived.Test.YtkckmfnmdkfkaaaDoorScan
import Derived.Deep.RegionLaw
namespace Go.Proofs.YtkckmfnmdkfkaaaDoor
open Go.RowKit

/-- Append to a row that the call owns, as one step of a region that draws its order. -/
theorem step_append_own {P : Program} {ops : Array Oper} {o : Oper} {a : Act} {w : World} {K : Act → World → Prop} {Q : Exit → Act → World → Prop} {E : Prop}
    (hg : o.guard = none) (s x : Operand) (t : TypeId) (hop : o.op = Op.call { callee := Callee.builtin Builtin.append, args := #[s, x], argTypes := #[t, t] })
    (base : Nat) (e : TypeId) (i : TypeInfo) (z : Value) (size bytes : Nat) (h1 : P.underlying t = some (.slice e)) (h2 : P.info? e = some i) (h3 : i.zero = some z) (h4 : i.size = size) (h5 : i.bytes = bytes) (h6 : z.cells.size = size) (h7 : 0 < size)
    (v : Value) (n : Nat) (xs : List Value) (hs : a.eval s = v) (hown : w.ownsRow base e size v n xs)
    (ad : Addr) (m c : Nat) (news : List Value) (hx : a.eval x = .slice (some ad) m c) (hn : news.length = m * size) (hc : ∀ j u, news[j]? = some u → w.cell? (ad.add j) = some u) (h1c : ∀ u ∈ news, u.oneCell' = true)
    (b1 : n + m ≤ maxLen) (b2 : (n + m) * bytes ≤ 140737488355328) (hb : base ≤ w.heap.size)
    (hK : ∀ v' w', w'.ownsRow base e size v' (n + m) (xs ++ news) → w.grownBy w' v.ownBlock → K (a.put o.dst v') w') :
    if Region.wanted o (yielded ops a.tmps) = true then Oper.wp P o a w K Q else E := by
  have hw : Region.wanted o (yielded ops a.tmps) = true := by simp [Region.wanted, hg]
  rw [if_pos hw]
  exact wp_append_own w s x t hop base e i z size bytes h1 h2 h3 h4 h5 h6 h7 v n xs hs hown ad m c news hx hn hc h1c b1 b2 hb (fun v' w' r1 r2 _ => hK v' w' r1 r2)

def fltObj : Obj := .cells #[.int .i64 0, .int .i64 0] 25
/-- The world behind the two structs that the call lays first. -/
def startW (w : World) : World := (w.alloc (.cells #[.int .i64 0, .int .i64 0] 25)).alloc (.cells #[.int .i64 0, .int .i64 0] 25)
theorem startW_size (w : World) : (startW w).heap.size = w.heap.size + 1 + 1 := by simp [startW]

/-- What is kept: the iterator, the row of tokens, all that lay before. -/
def St (s : ByteArray) (w : World) (v : Value) (acc : List Lx.Tk) (pos : Nat) (wr : World) : Prop :=
  wr.heap[w.heap.size + 1 + 1]? = some (.stringIter s pos) ∧ wr.ownsRow (w.heap.size + 3) 31 4 v acc.length (cellsOf acc) ∧ Below (w.heap.size + 1 + 1) (startW w) wr

section
variable {s : ByteArray} {w wr : World} {v : Value} {acc : List Lx.Tk} {pos : Nat}

theorem St.size (h : St s w v acc pos wr) : w.heap.size + 1 + 1 < wr.heap.size := (Array.getElem?_eq_some_iff.1 h.1).1

theorem St.start (s : ByteArray) (w : World) : St s w (.slice none 0 0) [] 0 ((startW w).iter s 0) := by
  refine ⟨?_, World.ownsRow_nil _ _ _ _, ?_⟩
  · have := World.iter_heap (startW w) s 0
    rw [startW_size] at this
    exact this
  · have := (Below.refl (w.heap.size + 1 + 1) (startW w)).alloc (by rw [startW_size]; exact Nat.le_refl _) (.stringIter s 0)
    exact this

theorem St.iterAt (h : St s w v acc pos wr) (pos' : Nat) : St s w v acc pos' (wr.iterAt (w.heap.size + 1 + 1) s pos') :=
  ⟨Lib.iterAt_heap wr _ s pos pos' h.1, ownsRow_iterAt h.2.1 (by omega) s pos', Lib.below_iterAt h.2.2 (Nat.le_refl _) s pos'⟩

theorem St.below (h : St s w v acc pos wr) {w2 : World} (hb : Below wr.heap.size wr w2) : St s w v acc pos w2 :=
  ⟨(hb.block _ h.size).trans h.1, own_below h.2.1 hb, h.2.2.trans (hb.mono (Nat.le_of_lt h.size))⟩

theorem St.alloc (h : St s w v acc pos wr) (o : Obj) : St s w v acc pos (wr.alloc o) :=
  h.below ((Below.refl _ _).alloc (Nat.le_refl _) o)

theorem St.drew (h : St s w v acc pos wr) : St s w v acc pos wr.drew := ⟨h.1, h.2.1, h.2.2.drew⟩

theorem St.setCell (h : St s w v acc pos wr) {p : Addr} (hp : w.heap.size + 1 + 1 < p.block) (hv : v.ownBlock ≠ some p.block) (u : Value) : St s w v acc pos (wr.setCell p u) :=
  ⟨(Below.heap_setCell _ _ _ _ (by omega)).trans h.1, ownsRow_setCell_other h.2.1 hv u, h.2.2.setCell (by omega) u⟩

theorem St.own_lt (h : St s w v acc pos wr) {T : Nat} (hT : wr.heap.size ≤ T) : v.ownBlock ≠ some T := by
  intro e
  have := (h.2.1.lt T e).2
  omega

theorem St.grown (h : St s w v acc pos wr) {v' : Value} {w2 : World} {t : Lx.Tk} (hown : w2.ownsRow (w.heap.size + 3) 31 4 v' (acc.length + 1) (cellsOf acc ++ tkCells t)) (hg : wr.grownBy w2 v.ownBlock) : St s w v' (acc ++ [t]) pos w2 := by
  refine ⟨?_, own_app hown, h.2.2.grown hg (Nat.le_of_lt h.size) (fun k hk => by have := (h.2.1.lt k hk).1; omega)⟩
  rw [hg.block _ h.size]
  · exact h.1
  · intro e
    have := (h.2.1.lt _ e.symm).1
    omega

/-- The two structs of the call's beginning, as they lie in a later world. -/
theorem St.flt (h : Below (w.heap.size + 1 + 1) (startW w) wr) :
    (wr.cell? ⟨w.heap.size, 0, none⟩ = some (.int .i64 0) ∧ wr.cell? ⟨w.heap.size, 1, none⟩ = some (.int .i64 0) ∧ wr.cell? ⟨w.heap.size + 1, 0, none⟩ = some (.int .i64 0) ∧ wr.cell? ⟨w.heap.size + 1, 1, none⟩ = some (.int .i64 0)) ∧
    (wr.frozen? ⟨w.heap.size, 0, none⟩ = false ∧ wr.frozen? ⟨w.heap.size, 1, none⟩ = false ∧ wr.frozen? ⟨w.heap.size + 1, 0, none⟩ = false ∧ wr.frozen? ⟨w.heap.size + 1, 1, none⟩ = false) := by
  obtain ⟨hc, hf⟩ := bcell h
  refine ⟨⟨(hc _ _ (by omega)).trans (by simp [startW]), (hc _ _ (by omega)).trans (by simp [startW]), (hc _ _ (by omega)).trans (by simp [startW]), (hc _ _ (by omega)).trans (by simp [startW])⟩,
    ⟨(hf _ _ (by omega)).trans (by simp [startW]), (hf _ _ (by omega)).trans (by simp [startW]), (hf _ _ (by omega)).trans (by simp [startW]), (hf _ _ (by omega)).trans (by simp [startW])⟩⟩

theorem St.old (h : Below (w.heap.size + 1 + 1) (startW w) wr) : Below w.heap.size w wr :=
  (((Below.refl _ w).alloc (Nat.le_refl _) _).alloc (by simp) _).trans (h.mono (by omega))

theorem new_cells1 {w : World} (o1 : Obj) (t : Lx.Tk) (e : TypeId) : ∀ j u, (tkCells t)[j]? = some u → ((w.alloc o1).alloc (.cells #[.int .i64 t.kind, .int .i64 t.pos, .string ⟨t.text.toArray⟩, .int .i64 t.num] e)).cell? ((⟨w.heap.size + 1, 0, none⟩ : Addr).add j) = some u := by
  have h := new_cells (w := w.alloc o1) t e
  have e1 : (w.alloc o1).heap.size = w.heap.size + 1 := by simp
  rw [e1] at h
  exact h

theorem new_cellsX {X : World} {N : Nat} (hN : X.heap.size = N) (t : Lx.Tk) (e : TypeId) : ∀ j u, (tkCells t)[j]? = some u → (X.alloc (.cells #[.int .i64 t.kind, .int .i64 t.pos, .string ⟨t.text.toArray⟩, .int .i64 t.num] e)).cell? ((⟨N, 0, none⟩ : Addr).add j) = some u := by
  subst hN
  exact new_cells t e

/-- A token's four cells, none of them frozen. -/
def TokIn (W : World) (T : Nat) (a0 a1 a2 a3 : Value) : Prop :=
  (W.cell? ⟨T, 0, none⟩ = some a0 ∧ W.cell? ⟨T, 1, none⟩ = some a1 ∧ W.cell? ⟨T, 2, none⟩ = some a2 ∧ W.cell? ⟨T, 3, none⟩ = some a3) ∧
  (W.frozen? ⟨T, 0, none⟩ = false ∧ W.frozen? ⟨T, 1, none⟩ = false ∧ W.frozen? ⟨T, 2, none⟩ = false ∧ W.frozen? ⟨T, 3, none⟩ = false)

theorem TokIn.store {W : World} {T : Nat} {a0 a1 a2 a3 : Value} (h : TokIn W T a0 a1 a2 a3) (b0 b1 b2 b3 : Value) :
    TokIn ((((W.setCell ⟨T, 0, none⟩ b0).setCell ⟨T, 1, none⟩ b1).setCell ⟨T, 2, none⟩ b2).setCell ⟨T, 3, none⟩ b3) T b0 b1 b2 b3 := by
  obtain ⟨⟨c0, c1, c2, c3⟩, f0, f1, f2, f3⟩ := h
  refine ⟨⟨?_, ?_, ?_, ?_⟩, ?_, ?_, ?_, ?_⟩ <;> simp [go_sem, c0, c1, c2, c3, f0, f1, f2, f3]
theorem TokIn.place {W : World} {T : Nat} {a0 a1 a2 a3 : Value} (h : TokIn W T a0 a1 a2 a3) (b1 : Value) : TokIn (W.setCell ⟨T, 1, none⟩ b1) T a0 b1 a2 a3 := by
  obtain ⟨⟨c0, c1, c2, c3⟩, f0, f1, f2, f3⟩ := h
  refine ⟨⟨?_, ?_, ?_, ?_⟩, ?_, ?_, ?_, ?_⟩ <;> simp [go_sem, c0, c1, c2, c3, f0, f1, f2, f3]

theorem St.store (h : St s w v acc pos wr) {T : Nat} (hp : w.heap.size + 1 + 1 < T) (hv : v.ownBlock ≠ some T) (b0 b1 b2 b3 : Value) :
    St s w v acc pos ((((wr.setCell ⟨T, 0, none⟩ b0).setCell ⟨T, 1, none⟩ b1).setCell ⟨T, 2, none⟩ b2).setCell ⟨T, 3, none⟩ b3) :=
  (((h.setCell (p := ⟨T, 0, none⟩) hp hv b0).setCell (p := ⟨T, 1, none⟩) hp hv b1).setCell (p := ⟨T, 2, none⟩) hp hv b2).setCell (p := ⟨T, 3, none⟩) hp hv b3

theorem fin_post {w2 : World} {v' : Value} {ts : List Lx.Tk} (ha : answer s = (0, 0, ts)) (h : St s w v' ts pos w2) :
    TokPost s w (.returned (.tuple #[v', .agg #[.int .i64 0, .int .i64 0]])) ((w2.setCell ⟨w.heap.size, 0, none⟩ (.int .i64 0)).setCell ⟨w.heap.size, 1, none⟩ (.int .i64 0)) := by
  refine ⟨v', by rw [ha]; rfl, ?_, ((St.old h.2.2).setCell (Nat.le_refl _) _).setCell (Nat.le_refl _) _⟩
  rw [ha]
  have h2 := ownsRow_setCell_below (ownsRow_setCell_below h.2.1 (a := ⟨w.heap.size, 0, none⟩) (show w.heap.size < w.heap.size + 3 by omega) (.int .i64 0)) (a := ⟨w.heap.size, 1, none⟩) (show w.heap.size < w.heap.size + 3 by omega) (.int .i64 0)
  refine ⟨h2.1, ?_⟩
  rcases h2.2 with h3 | ⟨g, cap, cur, hv, hb, r⟩
  · exact .inl h3
  · exact .inr ⟨g, cap, cur, hv, by omega, r⟩
theorem bad_post {w2 : World} {k p : Nat} (ha : answer s = (k, p, [])) (h : Below w.heap.size w w2) : TokPost s w (.returned (.tuple #[.slice none 0 0, .agg #[.int .i64 k, .int .i64 p]])) w2 :=
  ⟨_, by rw [ha]; rfl, by rw [ha]; exact World.ownsRow_nil _ _ _ _, h⟩

theorem flt_below {wq : World} (hb : Below w.heap.size w wq) (a b c d : Value) :
    Below w.heap.size w ((((wq.setCell ⟨w.heap.size + 1, 0, none⟩ a).setCell ⟨w.heap.size + 1, 1, none⟩ b).setCell ⟨w.heap.size, 0, none⟩ c).setCell ⟨w.heap.size, 1, none⟩ d) :=
  (((hb.setCell (Nat.le_succ _) _).setCell (Nat.le_succ _) _).setCell (Nat.le_refl _) _).setCell (Nat.le_refl _) _
theorem below_alloc_drew {wq : World} (hb : Below w.heap.size w wq) (o : Obj) : Below w.heap.size w (wq.alloc o).drew := (hb.alloc hb.size o).drew

theorem rest_list (s : ByteArray) (pos : Nat) : (s.extract pos s.size).data.toList = s.data.toList.drop pos := by
  rw [extract_list]
  exact List.take_of_length_le (by simp)
theorem rest_head (s : ByteArray) (pos : Nat) (h : pos < s.size) : ∃ h2 : 0 < (s.extract pos s.size).size, (s.extract pos s.size)[0] = s[pos] := by
  have h2 : 0 < (s.extract pos s.size).size := by rw [extract_size s pos s.size (Nat.le_refl _)]; omega
  obtain ⟨_, e⟩ := extract_get s pos s.size 0 (Nat.le_refl _) h2
  exact ⟨h2, e⟩
end
end Go.Proofs.YtkckmfnmdkfkaaaDoor
