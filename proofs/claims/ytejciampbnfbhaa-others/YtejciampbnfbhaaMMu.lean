import Derived.Test.YtejciampbnfbhaaMLex
import Derived.Test.YtejciampbnfbhaaMSynB
import Derived.Deep.LoopGhost
set_option linter.unusedVariables false
set_option linter.unusedSimpArgs false
namespace Go.Proofs.Ytejciampbnfbhaa
namespace Sy
open Lx
def mu (s : RS) : Nat := if okA s then (if s.t.kind = 0 then 0 else s.rest.length + 1) else 0
theorem mu_err {t : Tk} {r : List Tk} {k p : Nat} (h : k ≠ 0) : mu ⟨t, r, (k, p)⟩ = 0 := by simp [mu, okA, h]
theorem mu_no (s : RS) : mu (noA s) ≤ mu s := by
 unfold noA
 split
 ·rw [mu_err (by decide)]; omega
 ·omega
theorem mu_stuck (s : RS) : mu (stuckA s) ≤ mu s := by
 unfold stuckA
 split
 ·rw [mu_err (by decide)]; omega
 ·omega
theorem mu_deep (s : RS) : mu (deepA s) ≤ mu s := by rw [deepA, mu_err (by decide)]; omega
variable (z : Env)
theorem mu_next_lt {s : RS} (ho : okA s = true) (hk : s.t.kind ≠ 0) : mu (nextA z s) < mu s := by
 have h0 : mu s = s.rest.length + 1 := by simp [mu, ho, hk]
 rw [h0]
 unfold nextA
 rw [if_pos ho]
 cases hr : s.rest with
 | cons x r =>
  simp only [mu, okA]
  split <;> (try split) <;> simp
 | nil =>
  by_cases hz : z.fin.1 = 0
  ·simp [hz, mu, okA, endTk]
  ·simp [hz, mu, okA]
theorem mu_next (s : RS) : s.t.kind ≠ 0 ∨ okA s = false → mu (nextA z s) ≤ mu s := by
 intro h
 cases ho : okA s with
 | true =>
  rcases h with h | h
  ·exact Nat.le_of_lt (mu_next_lt z ho h)
  ·rw [ho] at h; cases h
 | false => simp [nextA, ho]
theorem is_kind' {s : RS} {x : List UInt8} (h : isA x s = true) : s.t.kind ≠ 0 ∧ okA s = true := by
 simp only [isA, Bool.and_eq_true, Bool.or_eq_true, beq_iff_eq] at h
 obtain ⟨⟨h1, h2⟩, _⟩ := h
 exact ⟨by rcases h2 with h2 | h2 <;> omega, h1⟩
theorem mu_is {s : RS} {x : List UInt8} (h : isA x s = true) : mu (nextA z s) < mu s := mu_next_lt z (is_kind' h).2 (is_kind' h).1
theorem mu_has (x : List UInt8) (s : RS) : mu (hasA z x s) ≤ mu s := by
 unfold hasA
 split
 ·rename_i h; exact Nat.le_of_lt (mu_is z h)
 ·omega
theorem mu_must (x : List UInt8) (s : RS) : mu (mustA z x s) ≤ mu s := by
 unfold mustA
 split
 ·rename_i h; exact Nat.le_of_lt (mu_is z h)
 ·exact mu_no s
theorem mu_isName {s : RS} (h : isNameA s = true) : mu (nextA z s) < mu s := by
 simp only [isNameA, Bool.and_eq_true, beq_iff_eq] at h
 exact mu_next_lt z h.1 (by omega)
theorem mu_name (s : RS) : mu (nameA z s).2 ≤ mu s := by
 unfold nameA
 split
 ·rename_i h; exact Nat.le_of_lt (mu_isName z h)
 ·exact mu_no s
theorem mu_name_lt {s : RS} (h : okA (nameA z s).2 = true) (h2 : okA s = true) : mu (nameA z s).2 < mu s := by
 unfold nameA at h ⊢
 split
 ·rename_i h; exact mu_isName z h
 ·rename_i h3
  rw [if_neg h3] at h
  simp only [noA, h2, if_true] at h
  simp [okA] at h
def Down (g : RS → Tr × RS) : Prop := ∀ s, mu (g s).2 ≤ mu s
variable (N : Nat)
theorem mu_row : ∀ n l s, mu (rowA z n l s).2 ≤ mu s := by
 intro n
 induction n with
 | zero => intro l s; exact mu_stuck s
 | succ n ih =>
  intro l s
  rw [rowA]
  have h1 := mu_name z s
  split
  ·rename_i h
   have := ih (l ++ [nm 23 (nameA z s).1.2 (nameA z s).1.1 []]) (nextA z (nameA z s).2); have := mu_is z h; omega
  ·exact h1
theorem mu_lists : ∀ n a s, mu (listsA z n a s).2 ≤ mu s := by
 intro n
 induction n with
 | zero => intro l s; exact mu_stuck s
 | succ n ih =>
  intro a s
  rw [listsA]
  split
  ·rename_i h
   have := ih (nd 27 a.pos [a]) (nextA z s); have := mu_is z h; omega
  ·exact Nat.le_refl _
theorem mu_tatom {T : RS → Tr × RS} (hT : Down T) (s : RS) : mu (tatomA z T s).2 ≤ mu s := by
 unfold tatomA
 split
 ·rename_i h; exact Nat.le_of_lt (mu_is z h)
 ·split
  ·rename_i h; exact Nat.le_of_lt (mu_is z h)
  ·split
   ·rename_i h; exact Nat.le_of_lt (mu_is z h)
   ·split
    ·rename_i h
     have h1 := mu_is z h; have h2 := hT (nextA z s); have h3 := mu_must z s_rp (T (nextA z s)).2; simp only []; omega
    ·exact mu_no s
theorem mu_some {T : RS → Tr × RS} (hT : Down T) (s : RS) : mu (someA z N T s).2 ≤ mu s :=
 Nat.le_trans (mu_lists z N _ _) (mu_tatom z hT s)
theorem mu_pair {T : RS → Tr × RS} (hT : Down T) : ∀ n s, mu (pairA z N T n s).2 ≤ mu s := by
 intro n
 induction n with
 | zero => intro s; exact mu_stuck s
 | succ n ih =>
  intro s
  rw [pairA]
  have h1 := mu_some z N hT s
  split
  ·rename_i h
   have h2 := ih (nextA z (someA z N T s).2); have h3 := mu_is z h; simp only []; omega
  ·exact h1
theorem mu_typBody {T : RS → Tr × RS} (hT : Down T) (s : RS) : mu (typBodyA z N T s).2 ≤ mu s := by
 have h1 := mu_pair z N hT N s
 unfold typBodyA
 simp only []
 split
 ·rename_i h
  have h2 := mu_is z h
  have h3 := hT (nextA z (pairA z N T N s).2)
  simp only []
  omega
 ·split
  ·rename_i h
   have h2 := mu_is z h; have h3 := mu_must z s_lb (nextA z (pairA z N T N s).2); have h4 := mu_row z N [] (mustA z s_lb (nextA z (pairA z N T N s).2)); have h5 := mu_must z s_rb (rowA z N [] (mustA z s_lb (nextA z (pairA z N T N s).2))).2; have h6 := mu_must z s_arrow (mustA z s_rb (rowA z N [] (mustA z s_lb (nextA z (pairA z N T N s).2))).2); have h7 := hT (mustA z s_arrow (mustA z s_rb (rowA z N [] (mustA z s_lb (nextA z (pairA z N T N s).2))).2)); simp only []; omega
  ·exact h1
theorem mu_typ : ∀ k, Down (typA z N k) := by
 intro k
 induction k with
 | zero =>
  intro s
  rw [typA]
  split
  ·exact mu_deep s
  ·exact Nat.le_refl _
 | succ k ih =>
  intro s
  rw [typA]
  split
  ·exact mu_typBody z N ih s
  ·exact Nat.le_refl _
end Sy
end Go.Proofs.Ytejciampbnfbhaa

namespace Go.Proofs.Ytejciampbnfbhaa
open Go.RowKit
def NodeAt (w : World) (g o : Nat) (T : Sy.Tr) (v : Value) : Prop :=
 w.cell? ⟨g, o, none⟩ = some (.int .i64 T.kind) ∧ w.cell? ⟨g, o + 1, none⟩ = some (.int .i64 T.pos) ∧ w.cell? ⟨g, o + 2, none⟩ = some (.string ⟨T.name.toArray⟩) ∧
 w.cell? ⟨g, o + 3, none⟩ = some (.int .i64 T.num) ∧ w.cell? ⟨g, o + 4, none⟩ = some v
inductive Kids (w : World) (F : Nat → Prop) : Value → List Sy.Tr → Prop
 | nil : Kids w F (.slice none 0 0) []
 | row (g c : Nat) (kids : List Sy.Tr) (ks : Nat → Value) (hg : F g) (h0 : kids ≠ []) (hc : kids.length ≤ c)
   (hcell : ∀ i (h : i < kids.length), NodeAt w g (i * 5) kids[i] (ks i))
   (hk : ∀ i (h : i < kids.length), Kids w F (ks i) kids[i].kids) : Kids w F (.slice (some ⟨g, 0, none⟩) kids.length c) kids
theorem NodeAt.lt {w : World} {g o : Nat} {T : Sy.Tr} {v : Value} (h : NodeAt w g o T v) : g < w.heap.size := World.block_lt_of_cell? w ⟨g, o, none⟩ h.1
theorem NodeAt.of_heap {w w' : World} {g o : Nat} {T : Sy.Tr} {v : Value} (h : NodeAt w g o T v) (hh : w'.heap[g]? = w.heap[g]?) : NodeAt w' g o T v := by
 obtain ⟨h0, h1, h2, h3, h4⟩ := h
 exact ⟨(World.cell?_of_block (a := ⟨g, _, none⟩) hh).trans h0, (World.cell?_of_block (a := ⟨g, _, none⟩) hh).trans h1, (World.cell?_of_block (a := ⟨g, _, none⟩) hh).trans h2,
  (World.cell?_of_block (a := ⟨g, _, none⟩) hh).trans h3, (World.cell?_of_block (a := ⟨g, _, none⟩) hh).trans h4⟩
theorem Kids.carry {w w' : World} {F F' : Nat → Prop} {v : Value} {l : List Sy.Tr} (h : Kids w F v l) (hw : ∀ g, F g → g < w.heap.size → w'.heap[g]? = w.heap[g]?) (hF : ∀ g, F g → g < w.heap.size → F' g) : Kids w' F' v l := by
 induction h with
 | nil => exact .nil
 | row g c kids ks hg h0 hc hcell hk ih =>
  have hlt : g < w.heap.size := (hcell 0 (List.length_pos_iff.2 h0)).lt
  exact .row g c kids ks (hF g hg hlt) h0 hc (fun i hi => (hcell i hi).of_heap (hw g hg hlt)) ih
theorem Kids.kp {w w' : World} {b lo hi : Nat} {v : Value} {l : List Sy.Tr} (h : Kids w (fun g => lo ≤ g) v l) (hk : Kp b w w') (hb : b < lo) (hl : hi ≤ lo) : Kids w' (fun g => hi ≤ g) v l :=
 h.carry (fun g hg hlt => hk.block g hlt (fun e => by have := Option.some.inj e; omega)) (fun g hg _ => Nat.le_trans hl hg)
theorem Kids.past {w w' : World} {lo hi : Nat} {v : Value} {l : List Sy.Tr} (h : Kids w (fun g => lo ≤ g) v l) (hk : Below w.heap.size w w') (hl : hi ≤ lo) : Kids w' (fun g => hi ≤ g) v l :=
 h.carry (fun g _ hlt => hk.block g hlt) (fun _ hg _ => Nat.le_trans hl hg)
theorem Kids.slice {w : World} {F : Nat → Prop} {v : Value} {l : List Sy.Tr} (h : Kids w F v l) : ∃ a c, v = .slice a l.length c := by
 cases h with
 | nil => exact ⟨_, _, rfl⟩
 | row g c kids ks => exact ⟨_, _, rfl⟩
def nodeCells (T : Sy.Tr) (v : Value) : List Value := [.int .i64 T.kind, .int .i64 T.pos, .string ⟨T.name.toArray⟩, .int .i64 T.num, v]
def rowCells (l : List (Sy.Tr × Value)) : List Value := l.flatMap fun p => nodeCells p.1 p.2
theorem rowCells_get : ∀ (l : List (Sy.Tr × Value)) (i j : Nat) (h : i < l.length), j < 5 → (rowCells l)[i * 5 + j]? = (nodeCells l[i].1 l[i].2)[j]? := by
 intro l
 induction l with
 | nil => intro i j h; simp at h
 | cons t l ih =>
  intro i j h hj
  have e : rowCells (t :: l) = nodeCells t.1 t.2 ++ rowCells l := by simp [rowCells]
  have hl : (nodeCells t.1 t.2).length = 5 := rfl
  rw [e]
  cases i with
  | zero =>
   rw [Nat.zero_mul, Nat.zero_add, List.getElem?_append_left (by omega)]; rfl
  | succ i =>
   rw [List.getElem?_append_right (by omega), hl, show (i + 1) * 5 + j - 5 = i * 5 + j by omega]; exact ih i j (by simpa using h) hj
theorem rowCells_len (l : List (Sy.Tr × Value)) : (rowCells l).length = l.length * 5 := by
 induction l with
 | nil => rfl
 | cons t l ih =>
  have e : rowCells (t :: l) = nodeCells t.1 t.2 ++ rowCells l := by simp [rowCells]
  have hl : (nodeCells t.1 t.2).length = 5 := rfl
  rw [e, List.length_append, ih, hl, List.length_cons]
  omega
theorem kids_lit {w : World} {F : Nat → Prop} {g c : Nat} (l : List (Sy.Tr × Value)) (hF : F g) (h0 : l ≠ []) (hc : l.length ≤ c) (hcell : ∀ j v, (rowCells l)[j]? = some v → w.cell? ⟨g, j, none⟩ = some v)
  (hk : ∀ p ∈ l, Kids w F p.2 p.1.kids) : Kids w F (.slice (some ⟨g, 0, none⟩) l.length c) (l.map (·.1)) := by
 have hl : (l.map (·.1)).length = l.length := by simp
 have := Kids.row (w := w) (F := F) g c (l.map (·.1)) (fun i => ((l[i]?).map (·.2)).getD .nilIface) hF (by simpa using h0) (by simpa using hc) ?_ ?_
 ·rw [hl] at this; exact this
 ·intro i hi
  have hi' : i < l.length := by simpa using hi
  have hc : ∀ j, j < 5 → w.cell? ⟨g, i * 5 + j, none⟩ = (nodeCells l[i].1 l[i].2)[j]? := fun j hj => by
   have h1 := rowCells_get l i j hi' hj; have h2 : j < (nodeCells l[i].1 l[i].2).length := hj; rw [List.getElem?_eq_getElem h2] at h1 ⊢; exact hcell _ _ h1
  simp only [List.getElem_map, List.getElem?_eq_getElem hi', Option.map_some, Option.getD_some]
  exact ⟨hc 0 (by omega), hc 1 (by omega), hc 2 (by omega), hc 3 (by omega), hc 4 (by omega)⟩
 ·intro i hi
  have hi' : i < l.length := by simpa using hi
  simp only [List.getElem_map, List.getElem?_eq_getElem hi', Option.map_some, Option.getD_some]
  exact hk _ (List.getElem_mem hi')
def NRes (w : World) (b : Nat) (s : ByteArray) (z : Sy.Env) (x : Sy.Tr × Sy.RS) (e d : Nat) (en : Ending) (w' : World) : Prop :=
 ∃ a l c, en = .returned (.agg #[.int .i64 x.1.kind, .int .i64 x.1.pos, .string ⟨x.1.name.toArray⟩, .int .i64 x.1.num, .slice a l c]) ∧
  Hid (Kids w' (fun g => w.heap.size ≤ g) (.slice a l c) x.1.kids) ∧ Hid (Rd w' b s z x.2 e d) ∧ Hid (Kp b w w')
def TypOK (N k : Nat) : Prop := ∀ (w : World) (b : Nat) (s : ByteArray) (z : Sy.Env) (S : Sy.RS) (e : Nat), Rd w b s z S e (200 - k) → Sy.mu S < N →
 Calls Try.prog 19 #[.pointer (some ⟨b, 0, none⟩)] w fun en w' => NRes w b s z (Sy.typA z N k S) e (200 - k) en w'
theorem blk5 {w : World} {b : Nat} {a0 a1 a2 a3 a4 : Value} (h : Blk w b [a0, a1, a2, a3, a4]) :
  (w.cell? ⟨b, 0, none⟩ = some a0 ∧ w.cell? ⟨b, 1, none⟩ = some a1 ∧ w.cell? ⟨b, 2, none⟩ = some a2 ∧ w.cell? ⟨b, 3, none⟩ = some a3 ∧ w.cell? ⟨b, 4, none⟩ = some a4) ∧
  (w.frozen? ⟨b, 0, none⟩ = false ∧ w.frozen? ⟨b, 1, none⟩ = false ∧ w.frozen? ⟨b, 2, none⟩ = false ∧ w.frozen? ⟨b, 3, none⟩ = false ∧ w.frozen? ⟨b, 4, none⟩ = false) :=
 ⟨⟨(h 0 _ rfl).1, (h 1 _ rfl).1, (h 2 _ rfl).1, (h 3 _ rfl).1, (h 4 _ rfl).1⟩, (h 0 _ rfl).2, (h 1 _ rfl).2, (h 2 _ rfl).2, (h 3 _ rfl).2, (h 4 _ rfl).2⟩
structure Loc (w : World) (b A R lo : Nat) (s : ByteArray) (z : Sy.Env) (x : Sy.Tr × Sy.RS) (e d : Nat) (W : World) : Prop where
 here : ∃ a l c, Blk W A [.int .i64 x.1.kind, .int .i64 x.1.pos, .string ⟨x.1.name.toArray⟩, .int .i64 x.1.num, .slice a l c] ∧ Kids W (fun g => lo ≤ g) (.slice a l c) x.1.kids
 res : ∃ r0 r1 r2 r3 r4, Blk W R [r0, r1, r2, r3, r4]
 rd : Rd W b s z x.2 e d
 kp : Kp b w W
theorem Blk.other {w : World} {b c : Nat} {vs : List Value} (h : Blk w b vs) (hc : b ≠ c) (k : Nat) (v : Value) : Blk (w.setCell ⟨c, k, none⟩ v) b vs := h.of_heap (Below.heap_setCell _ _ _ _ hc)
theorem Blk.store {w : World} {A : Nat} {o0 o1 o2 o3 o4 : Value} (h : Blk w A [o0, o1, o2, o3, o4]) (v0 v1 v2 v3 v4 : Value) :
  Blk (((((w.setCell ⟨A, 0, none⟩ v0).setCell ⟨A, 1, none⟩ v1).setCell ⟨A, 2, none⟩ v2).setCell ⟨A, 3, none⟩ v3).setCell ⟨A, 4, none⟩ v4) A [v0, v1, v2, v3, v4] :=
 ((((h.set 0 (by simp) v0).set 1 (by simp) v1).set 2 (by simp) v2).set 3 (by simp) v3).set 4 (by simp) v4
def sto5 (w : World) (A : Nat) (v0 v1 v2 v3 v4 : Value) : World := ((((w.setCell ⟨A, 0, none⟩ v0).setCell ⟨A, 1, none⟩ v1).setCell ⟨A, 2, none⟩ v2).setCell ⟨A, 3, none⟩ v3).setCell ⟨A, 4, none⟩ v4
theorem sto5_heap (w : World) (A k : Nat) (v0 v1 v2 v3 v4 : Value) (h : k ≠ A) : (sto5 w A v0 v1 v2 v3 v4).heap[k]? = w.heap[k]? := by
 unfold sto5
 rw [Below.heap_setCell _ _ _ _ h, Below.heap_setCell _ _ _ _ h, Below.heap_setCell _ _ _ _ h, Below.heap_setCell _ _ _ _ h, Below.heap_setCell _ _ _ _ h]
theorem sto5_kp {w w2 : World} {b A : Nat} (h : Kp b w w2) (hA : w.heap.size ≤ A) (v0 v1 v2 v3 v4 : Value) : Kp b w (sto5 w2 A v0 v1 v2 v3 v4) :=
 ((((h.other hA _ _).other hA _ _).other hA _ _).other hA _ _).other hA _ _
theorem Rd.of_heap {w w' : World} {b e d : Nat} {s : ByteArray} {z : Sy.Env} {S : Sy.RS} (h : Rd w b s z S e d) (hw : w'.heap[b]? = w.heap[b]?) : Rd w' b s z S e d := by
 obtain ⟨h1, h2, p, hb, hp, hS⟩ := h
 exact ⟨h1, h2, p, hb.of_heap hw, hp, hS⟩
theorem loc_store {w w2 : World} {b A R lo e d : Nat} {s : ByteArray} {z : Sy.Env} {S : Sy.RS} {o0 o1 o2 o3 o4 r0 r1 r2 r3 r4 : Value} (hA : Blk w2 A [o0, o1, o2, o3, o4]) (hR : Blk w2 R [r0, r1, r2, r3, r4])
  (h1 : R ≠ A) (h2 : b ≠ A) (h3 : A < lo) (h4 : w.heap.size ≤ A) (hr : Rd w2 b s z S e d) (T : Sy.Tr) {a : Option Addr} {l c : Nat} (hk : Kids w2 (fun g => lo ≤ g) (.slice a l c) T.kids) (hkp : Kp b w w2) :
  Loc w b A R lo s z (T, S) e d (sto5 w2 A (.int .i64 T.kind) (.int .i64 T.pos) (.string ⟨T.name.toArray⟩) (.int .i64 T.num) (.slice a l c)) := by
 refine ⟨⟨a, l, c, hA.store _ _ _ _ _, ?_⟩, ⟨r0, r1, r2, r3, r4, hR.of_heap (sto5_heap _ _ _ _ _ _ _ _ h1)⟩, hr.of_heap (sto5_heap _ _ _ _ _ _ _ _ h2), sto5_kp hkp h4 _ _ _ _ _⟩
 exact hk.carry (fun g hg _ => sto5_heap _ _ _ _ _ _ _ _ (by omega)) (fun g hg _ => hg)
def z5 : Array Value := #[.int .i64 0, .int .i64 0, .string ⟨#[]⟩, .int .i64 0, .slice none 0 0]
structure In2 (w : World) (b : Nat) (s : ByteArray) (z : Sy.Env) (S : Sy.RS) (e d : Nat) (W : World) : Prop where
 one : Blk W w.heap.size [.int .i64 0, .int .i64 0, .string ⟨#[]⟩, .int .i64 0, .slice none 0 0]
 two : Blk W (w.heap.size + 1) [.int .i64 0, .int .i64 0, .string ⟨#[]⟩, .int .i64 0, .slice none 0 0]
 rd : Rd W b s z S e d
 kp : Kp b w W
 size : W.heap.size = w.heap.size + 2
theorem in2 {w : World} {b e d : Nat} {s : ByteArray} {z : Sy.Env} {S : Sy.RS} (h : Rd w b s z S e d) (t1 t2 : TypeId) :
  ∃ W, (w.alloc (.cells #[.int .i64 0, .int .i64 0, .string ⟨#[]⟩, .int .i64 0, .slice none 0 0] t1)).alloc (.cells #[.int .i64 0, .int .i64 0, .string ⟨#[]⟩, .int .i64 0, .slice none 0 0] t2) = W ∧ Hid (In2 w b s z S e d W) := by
 refine ⟨_, rfl, ?_, ?_, (h.alloc _).alloc _, ((Kp.refl b w).alloc _).alloc _, by simp⟩
 ·exact (Blk.new w [_, _, _, _, _] _).alloc _
 ·have := Blk.new (w.alloc (.cells #[.int .i64 0, .int .i64 0, .string ⟨#[]⟩, .int .i64 0, .slice none 0 0] t1)) [.int .i64 0, .int .i64 0, .string ⟨#[]⟩, .int .i64 0, .slice none 0 0] t2
  rw [show (w.alloc (.cells #[.int .i64 0, .int .i64 0, .string ⟨#[]⟩, .int .i64 0, .slice none 0 0] t1)).heap.size = w.heap.size + 1 by simp] at this
  exact this
theorem loc_put {w w2 : World} {b A R lo e d : Nat} {s : ByteArray} {z : Sy.Env} {S : Sy.RS} {o0 o1 o2 o3 o4 r0 r1 r2 r3 r4 : Value} (hA : Blk w2 A [o0, o1, o2, o3, o4]) (hR : Blk w2 R [r0, r1, r2, r3, r4])
  (h1 : R ≠ A) (h2 : b ≠ A) (h3 : A < lo) (h4 : w.heap.size ≤ A) (hr : Rd w2 b s z S e d) (T : Sy.Tr) {a : Option Addr} {l c : Nat} (hk : Kids w2 (fun g => lo ≤ g) (.slice a l c) T.kids) (hkp : Kp b w w2)
  (kk pp nn : Int) (xx : ByteArray) (e1 : kk = T.kind) (e2 : pp = T.pos) (e3 : xx = ⟨T.name.toArray⟩) (e4 : nn = T.num) :
  ∃ W, ((((w2.setCell ⟨A, 0, none⟩ (.int .i64 kk)).setCell ⟨A, 1, none⟩ (.int .i64 pp)).setCell ⟨A, 2, none⟩ (.string xx)).setCell ⟨A, 3, none⟩ (.int .i64 nn)).setCell ⟨A, 4, none⟩ (.slice a l c) = W ∧ Hid (Loc w b A R lo s z (T, S) e d W) := by
 subst e1 e2 e3 e4
 exact ⟨_, rfl, loc_store hA hR h1 h2 h3 h4 hr T hk hkp⟩
theorem Loc.fin {w W : World} {b A R lo e d : Nat} {s : ByteArray} {z : Sy.Env} {x : Sy.Tr × Sy.RS} (h : Loc w b A R lo s z x e d W) (hlo : w.heap.size ≤ lo) (hR : R < lo) (hRw : w.heap.size ≤ R) (hb : b ≠ R) {a : Option Addr} {l c : Nat}
  (hk : Kids W (fun g => lo ≤ g) (.slice a l c) x.1.kids) (v0 v1 v2 v3 v4 : Value) :
  NRes w b s z x e d (.returned (.agg #[.int .i64 x.1.kind, .int .i64 x.1.pos, .string ⟨x.1.name.toArray⟩, .int .i64 x.1.num, .slice a l c])) (sto5 W R v0 v1 v2 v3 v4) :=
 ⟨a, l, c, rfl, hk.carry (fun g hg _ => sto5_heap _ _ _ _ _ _ _ _ (by omega)) (fun g hg _ => Nat.le_trans hlo hg), h.rd.of_heap (sto5_heap _ _ _ _ _ _ _ _ hb), sto5_kp h.kp hRw _ _ _ _ _⟩
theorem kids_one {w1 w2 : World} {lo : Nat} {x : Sy.Tr} {a : Option Addr} {l c : Nat} {ty : TypeId} (hk : Kids w1 (fun g => lo ≤ g) (.slice a l c) x.kids) (hlo : lo ≤ w1.heap.size)
  (hb : Below (w1.alloc (.cells #[.int .i64 x.kind, .int .i64 x.pos, .string ⟨x.name.toArray⟩, .int .i64 x.num, .slice a l c] ty)).heap.size (w1.alloc (.cells #[.int .i64 x.kind, .int .i64 x.pos, .string ⟨x.name.toArray⟩, .int .i64 x.num, .slice a l c] ty)) w2) :
  Kids w2 (fun g => lo ≤ g) (.slice (some ⟨w1.heap.size, 0, none⟩) 1 1) [x] := by
 have hB : Blk w2 w1.heap.size (rowCells [(x, .slice a l c)]) := (Blk.new w1 (rowCells [(x, .slice a l c)]) ty).past hb
 refine kids_lit [(x, .slice a l c)] hlo (by simp) (by simp) (fun j v hj => (hB j v hj).1) ?_
 intro p hp
 simp at hp
 subst hp
 exact (hk.past ((Below.refl _ _).alloc (Nat.le_refl _) _) (Nat.le_refl _)).past hb (Nat.le_refl _)
theorem Loc.step {w W W' : World} {b A R lo e d : Nat} {s : ByteArray} {z : Sy.Env} {x : Sy.Tr × Sy.RS} {S : Sy.RS} (h : Loc w b A R lo s z x e d W) (hr : Rd W' b s z S e d) (hk : Kp b W W') (h1 : A ≠ b) (h2 : R ≠ b) (h3 : b < lo) : Loc w b A R lo s z (x.1, S) e d W' := by
 obtain ⟨⟨a, l, c, hA, hK⟩, ⟨r0, r1, r2, r3, r4, hR⟩, _, hkp⟩ := h
 exact ⟨⟨a, l, c, hA.kp hk h1, hK.kp hk h3 (Nat.le_refl _)⟩, ⟨r0, r1, r2, r3, r4, hR.kp hk h2⟩, hr, hkp.trans hk⟩
theorem Kids.kpF {w w' : World} {F : Nat → Prop} {b : Nat} {v : Value} {l : List Sy.Tr} (h : Kids w F v l) (hk : Kp b w w') (hF : ∀ g, F g → g ≠ b) : Kids w' F v l :=
 h.carry (fun g hg hlt => hk.block g hlt (fun e => hF g hg (Option.some.inj e))) (fun _ hg _ => hg)
theorem Kids.pastF {w w' : World} {F : Nat → Prop} {v : Value} {l : List Sy.Tr} (h : Kids w F v l) (hk : Below w.heap.size w w') : Kids w' F v l :=
 h.carry (fun g _ hlt => hk.block g hlt) (fun _ hg _ => hg)
theorem Kids.weak {w : World} {F F' : Nat → Prop} {v : Value} {l : List Sy.Tr} (h : Kids w F v l) (hF : ∀ g, F g → g < w.heap.size → F' g) : Kids w F' v l :=
 h.carry (fun _ _ _ => rfl) hF
def Fr (lo A : Nat) : Nat → Prop := fun g => lo ≤ g ∧ g ≠ A
structure Vr (W : World) (A lo : Nat) (T : Sy.Tr) (a : Option Addr) (l c : Nat) : Prop where
 cells : Blk W A [.int .i64 T.kind, .int .i64 T.pos, .string ⟨T.name.toArray⟩, .int .i64 T.num, .slice a l c]
 kids : Kids W (Fr lo A) (.slice a l c) T.kids
theorem Vr.lt {W : World} {A lo : Nat} {T : Sy.Tr} {a : Option Addr} {l c : Nat} (h : Vr W A lo T a l c) : A < W.heap.size := h.cells.lt
theorem Vr.kp {W W' : World} {A lo b : Nat} {T : Sy.Tr} {a : Option Addr} {l c : Nat} (h : Vr W A lo T a l c) (hk : Kp b W W') (h1 : A ≠ b) (h2 : b < lo) : Vr W' A lo T a l c :=
 ⟨h.cells.kp hk h1, h.kids.kpF hk (fun g hg => by have := hg.1; omega)⟩
theorem Vr.past {W W' : World} {A lo : Nat} {T : Sy.Tr} {a : Option Addr} {l c : Nat} (h : Vr W A lo T a l c) (hk : Below W.heap.size W W') : Vr W' A lo T a l c := ⟨h.cells.past hk, h.kids.pastF hk⟩
theorem Vr.alloc {W : World} {A lo : Nat} {T : Sy.Tr} {a : Option Addr} {l c : Nat} (h : Vr W A lo T a l c) (o : Obj) : Vr (W.alloc o) A lo T a l c := h.past ((Below.refl _ _).alloc (Nat.le_refl _) o)
theorem Vr.same {W W' : World} {A lo : Nat} {T : Sy.Tr} {a : Option Addr} {l c : Nat} (h : Vr W A lo T a l c) (hw : W'.heap = W.heap) : Vr W' A lo T a l c :=
 ⟨h.cells.of_heap (by rw [hw]), h.kids.carry (fun _ _ _ => by rw [hw]) (fun _ hg _ => hg)⟩
theorem Vr.weak {W : World} {A lo lo' : Nat} {T : Sy.Tr} {a : Option Addr} {l c : Nat} (h : Vr W A lo T a l c) (hl : lo' ≤ lo) : Vr W A lo' T a l c := ⟨h.cells, h.kids.weak (fun _ hg _ => ⟨Nat.le_trans hl hg.1, hg.2⟩)⟩
theorem vr_new {w1 : World} {lo : Nat} {T : Sy.Tr} {a : Option Addr} {l c : Nat} (h : Kids w1 (fun g => lo ≤ g) (.slice a l c) T.kids) (ty : TypeId) :
  Vr (w1.alloc (.cells #[.int .i64 T.kind, .int .i64 T.pos, .string ⟨T.name.toArray⟩, .int .i64 T.num, .slice a l c] ty)) w1.heap.size lo T a l c :=
 ⟨Blk.new w1 [_, _, _, _, _] ty, (h.weak (fun g hg hlt => ⟨hg, by omega⟩)).pastF ((Below.refl _ _).alloc (Nat.le_refl _) _)⟩
theorem kids_new {w1 w2 : World} {F : Nat → Prop} {ty : TypeId} (l : List (Sy.Tr × Value)) (h0 : l ≠ []) (hF : F w1.heap.size) (hk : ∀ p ∈ l, Kids w1 F p.2 p.1.kids) (cs : Array Value) (hcs : cs = (rowCells l).toArray) (n : Nat) (hn : n = l.length)
  (hb : Below (w1.alloc (.cells cs ty)).heap.size (w1.alloc (.cells cs ty)) w2) : Kids w2 F (.slice (some ⟨w1.heap.size, 0, none⟩) n n) (l.map (·.1)) := by
 subst hcs hn
 have hne : ∃ v vs, rowCells l = v :: vs := by
  cases l with
  | nil => exact absurd rfl h0
  | cons p l => exact ⟨_, _, rfl⟩
 obtain ⟨v, vs, hv⟩ := hne
 have hB : Blk w2 w1.heap.size (rowCells l) := by
  have := Blk.new w1 (rowCells l) ty
  rw [hv] at this hb ⊢
  exact this.past hb
 refine kids_lit l hF h0 (Nat.le_refl _) (fun j v hj => (hB j v hj).1) ?_
 intro p hp
 exact ((hk p hp).pastF ((Below.refl _ _).alloc (Nat.le_refl _) _)).pastF hb
theorem Kids.free {W : World} {A lo hi : Nat} {v : Value} {l : List Sy.Tr} (h : Kids W (Fr lo A) v l) (hl : hi ≤ lo) : Kids W (fun g => hi ≤ g) v l := h.weak (fun _ hg _ => Nat.le_trans hl hg.1)
theorem nres_fin {w W : World} {b R lo e d : Nat} {s : ByteArray} {z : Sy.Env} {x : Sy.Tr × Sy.RS} (T : Sy.Tr) (S : Sy.RS) {a : Option Addr} {l c : Nat} (hk : Kids W (fun g => lo ≤ g) (.slice a l c) T.kids)
  (hr : Rd W b s z S e d) (hkp : Kp b w W) (hx : x = (T, S)) (hR : R < lo) (hRw : w.heap.size ≤ R) (hb : b ≠ R) (kk pp nn : Int) (xx : ByteArray) (e1 : kk = T.kind) (e2 : pp = T.pos) (e3 : xx = ⟨T.name.toArray⟩) (e4 : nn = T.num) (v0 v1 v2 v3 v4 : Value) :
  NRes w b s z x e d (.returned (.agg #[.int .i64 kk, .int .i64 pp, .string xx, .int .i64 nn, .slice a l c])) (sto5 W R v0 v1 v2 v3 v4) := by
 subst e1 e2 e3 e4 hx
 exact ⟨a, l, c, rfl, hk.carry (fun g hg _ => sto5_heap _ _ _ _ _ _ _ _ (by omega)) (fun g hg _ => by omega), hr.of_heap (sto5_heap _ _ _ _ _ _ _ _ hb), sto5_kp hkp hRw _ _ _ _ _⟩
structure In1 (w : World) (b : Nat) (s : ByteArray) (z : Sy.Env) (S : Sy.RS) (e d : Nat) (W : World) : Prop where
 one : Blk W w.heap.size [.int .i64 0, .int .i64 0, .string ⟨#[]⟩, .int .i64 0, .slice none 0 0]
 rd : Rd W b s z S e d
 kp : Kp b w W
 size : W.heap.size = w.heap.size + 1
theorem in1 {w : World} {b e d : Nat} {s : ByteArray} {z : Sy.Env} {S : Sy.RS} (h : Rd w b s z S e d) (t1 : TypeId) :
  ∃ W, w.alloc (.cells #[.int .i64 0, .int .i64 0, .string ⟨#[]⟩, .int .i64 0, .slice none 0 0] t1) = W ∧ Hid (In1 w b s z S e d W) :=
 ⟨_, rfl, Blk.new w [_, _, _, _, _] _, h.alloc _, (Kp.refl b w).alloc _, by simp⟩
theorem var_new {w0 w1 : World} {b e d : Nat} {s : ByteArray} {z : Sy.Env} {S : Sy.RS} {T : Sy.Tr} {a : Option Addr} {l c : Nat} (h : Kids w1 (fun g => w0.heap.size ≤ g) (.slice a l c) T.kids) (hr : Rd w1 b s z S e d) (hk : Kp b w0 w1) (ty : TypeId) :
  ∃ W, w1.alloc (.cells #[.int .i64 T.kind, .int .i64 T.pos, .string ⟨T.name.toArray⟩, .int .i64 T.num, .slice a l c] ty) = W ∧ Hid (Vr W w1.heap.size w0.heap.size T a l c) ∧ Hid (Rd W b s z S e d) ∧ Hid (Kp b w0 W) ∧ W.heap.size = w1.heap.size + 1 ∧ w0.heap.size ≤ w1.heap.size :=
 ⟨_, rfl, vr_new h ty, hr.alloc _, hk.alloc _, by simp, hk.size⟩
end Go.Proofs.Ytejciampbnfbhaa
