import Derived.Test.YtejciampbnfbhaaMLex
import Derived.Test.YtejciampbnfbhaaMToks
import Derived.Deep.RegionHeld3
import Derived.Deep.DrawnRows
set_option linter.unusedVariables false
set_option linter.unusedSimpArgs false
set_option maxRecDepth 100000
set_option maxHeartbeats 4000000
namespace Go.Proofs.Ytejciampbnfbhaa
namespace Sy
open Lx
abbrev R (α : Type) := Except (Nat × Nat) (α × List Tk)
def bnd {α β : Type} (x : R α) (f : α → List Tk → R β) : R β :=
 match x with
 | .error e => .error e
 | .ok (a, ts) => f a ts
section B
variable (z : Env) (N : Nat)
def lookB (ts : List Tk) : R Tk :=
 match ts with
 | t :: r => .ok (t, t :: r)
 | [] => if z.fin.1 = 0 then .ok (endTk z, []) else .error z.fin
def iteB {α : Type} (x : List UInt8) (ts : List Tk) (yes no : List Tk → R α) : R α := bnd (lookB z ts) fun t _ => if t.text == x then yes ts.tail else no ts
def needB (x : List UInt8) (ts : List Tk) : R Unit := bnd (lookB z ts) fun t _ => if t.text == x then .ok ((), ts.tail) else .error (4, t.pos)
def kindB (k : Nat) (ts : List Tk) : R Tk := bnd (lookB z ts) fun t _ => if t.kind == k then .ok (t, ts.tail) else .error (4, t.pos)
def takeB (ts : List Tk) : R Tk := bnd (lookB z ts) fun t _ => .ok (t, ts.tail)
def namedB (ts : List Tk) : R Tr := bnd (kindB z 2 ts) fun t ts => .ok (nm 23 t.pos t.text [], ts)
def rowB : Nat → List Tr → List Tk → R (List Tr)
 | 0, _, ts => bnd (lookB z ts) fun _ _ => .error (99, 0)
 | n + 1, l, ts => bnd (namedB z ts) fun x ts => iteB z s_comma ts (fun ts => rowB n (l ++ [x]) ts) (fun ts => .ok (l ++ [x], ts))
def listsB : Nat → Tr → List Tk → R Tr
 | 0, _, ts => bnd (lookB z ts) fun _ _ => .error (99, 0)
 | n + 1, a, ts => iteB z w_list ts (fun ts => listsB n (nd 27 a.pos [a]) ts) (fun ts => .ok (a, ts))
def tatomB (T : List Tk → R Tr) (ts : List Tk) : R Tr :=
 bnd (lookB z ts) fun t _ =>
  if t.text == s_lp then bnd (T ts.tail) fun a ts => bnd (needB z s_rp ts) fun _ ts => .ok (a, ts)
  else if t.text == w_int then .ok (nd 24 t.pos [], ts.tail)
  else if t.text == w_bool then .ok (nd 25 t.pos [], ts.tail)
  else if t.text == w_unit then .ok (nd 26 t.pos [], ts.tail)
  else .error (4, t.pos)
def someB (T : List Tk → R Tr) (ts : List Tk) : R Tr := bnd (tatomB z T ts) fun a ts => listsB z N a ts
def pairB (T : List Tk → R Tr) : Nat → List Tk → R Tr
 | 0, ts => bnd (lookB z ts) fun _ _ => .error (99, 0)
 | n + 1, ts => bnd (someB z N T ts) fun a ts => iteB z s_star ts (fun ts => bnd (pairB T n ts) fun b ts => .ok (nd 28 a.pos [a, b], ts)) (fun ts => .ok (a, ts))
def typBodyB (T : List Tk → R Tr) (ts : List Tk) : R Tr :=
 bnd (pairB z N T N ts) fun a ts =>
  iteB z s_minus ts
   (fun ts => bnd (needB z s_lb ts) fun _ ts => bnd (rowB z N [] ts) fun l ts => bnd (needB z s_rb ts) fun _ ts => bnd (needB z s_arrow ts) fun _ ts => bnd (T ts) fun b ts => .ok (nd 29 a.pos ([a, b] ++ l), ts))
   (fun ts => iteB z s_arrow ts (fun ts => bnd (T ts) fun b ts => .ok (nd 29 a.pos [a, b], ts)) (fun ts => .ok (a, ts)))
def typB : Nat → List Tk → R Tr
 | 0, ts => bnd (lookB z ts) fun t _ => .error (5, t.pos)
 | k + 1, ts => bnd (lookB z ts) fun _ _ => typBodyB z N (typB k) ts
/- expressions -/
def opB (ts : List Tk) : R Tr :=
 bnd (takeB z ts) fun t ts =>
  iteB z w_once ts
   (fun ts => bnd (kindB z 2 ts) fun x ts => bnd (needB z s_colon ts) fun _ ts => bnd (typB z N 200 ts) fun a ts => bnd (needB z s_to ts) fun _ ts => bnd (typB z N 200 ts) fun b ts => .ok (.mk 1 t.pos x.text 1 [a, b], ts))
   (fun ts => bnd (needB z w_many ts) fun _ ts => bnd (kindB z 2 ts) fun x ts => bnd (needB z s_colon ts) fun _ ts => bnd (typB z N 200 ts) fun a ts => bnd (needB z s_to ts) fun _ ts => bnd (typB z N 200 ts) fun b ts => .ok (.mk 1 t.pos x.text 0 [a, b], ts))
end B
end Sy
end Go.Proofs.Ytejciampbnfbhaa

namespace Go.Proofs.Ytejciampbnfbhaa
namespace Sy
open Lx
section
variable {z : Env}
theorem okA_ne {s : RS} (h : okA s = false) : s.f.1 ≠ 0 := by simpa [okA] using h
theorem is_bad {s : RS} {x : List UInt8} (h : okA s = false) : isA x s = false := by simp [isA, h]
theorem next_bad {s : RS} (h : okA s = false) : nextA z s = s := by simp [nextA, h]
theorem no_bad {s : RS} (h : okA s = false) : noA s = s := by simp [noA, h]
theorem name_bad {s : RS} (h : okA s = false) : nameA z s = (([], 0), s) := by simp [nameA, isNameA, h, no_bad h]
end
end Sy
end Go.Proofs.Ytejciampbnfbhaa

namespace Go.Proofs.Ytejciampbnfbhaa
open Go.RowKit
def Blk (w : World) (b : Nat) (vs : List Value) : Prop := ∀ k v, vs[k]? = some v → w.cell? ⟨b, k, none⟩ = some v ∧ w.frozen? ⟨b, k, none⟩ = false
theorem Blk.of_heap {w w' : World} {b : Nat} {vs : List Value} (h : Blk w b vs) (hh : w'.heap[b]? = w.heap[b]?) : Blk w' b vs := fun k v hk =>
 ⟨(World.cell?_of_block (a := ⟨b, k, none⟩) hh).trans (h k v hk).1, (World.frozen?_of_block (a := ⟨b, k, none⟩) hh).trans (h k v hk).2⟩
theorem Blk.lt {w : World} {b : Nat} {v : Value} {vs : List Value} (h : Blk w b (v :: vs)) : b < w.heap.size := World.block_lt_of_cell? w ⟨b, 0, none⟩ (h 0 v rfl).1
theorem Blk.set {w : World} {b : Nat} {vs : List Value} (h : Blk w b vs) (k : Nat) (hk : k < vs.length) (v : Value) : Blk (w.setCell ⟨b, k, none⟩ v) b (vs.set k v) := by
 intro j u hj
 have ⟨c0, f0⟩ := h k vs[k] (List.getElem?_eq_getElem hk)
 by_cases e : k = j
 ·subst e
  rw [List.getElem?_set_self hk] at hj
  cases hj
  exact ⟨by simp [go_sem, c0], by simp [go_sem, f0]⟩
 ·rw [List.getElem?_set_ne e] at hj
  obtain ⟨c1, f1⟩ := h j u hj
  have e' : ¬ j = k := fun h => e h.symm
  exact ⟨by simp [go_sem, c1], by simp [go_sem, f1]⟩
theorem Blk.new (x : World) (l : List Value) (e : TypeId) : Blk (x.alloc (.cells l.toArray e)) x.heap.size l := by
 intro k v hk
 have hh := heap_alloc_new x (.cells l.toArray e)
 refine ⟨?_, ?_⟩
 ·rw [cell_of_row _ x.heap.size k l.toArray e (0, 0) hh]
  simpa using hk
 ·unfold World.frozen?
  rw [hh]
  simp
theorem Blk.past {x w2 : World} {b : Nat} {v : Value} {l : List Value} (h : Blk x b (v :: l)) (hb : Below x.heap.size x w2) : Blk w2 b (v :: l) := h.of_heap (hb.block b h.lt)
theorem Blk.alloc {x : World} {b : Nat} {v : Value} {l : List Value} (h : Blk x b (v :: l)) (o : Obj) : Blk (x.alloc o) b (v :: l) := h.of_heap (heap_alloc_old x o h.lt)
theorem blk4 {w : World} {b : Nat} {a0 a1 a2 a3 : Value} (h : Blk w b [a0, a1, a2, a3]) :
  w.cell? ⟨b, 0, none⟩ = some a0 ∧ w.cell? ⟨b, 1, none⟩ = some a1 ∧ w.cell? ⟨b, 2, none⟩ = some a2 ∧ w.cell? ⟨b, 3, none⟩ = some a3 ∧
  w.frozen? ⟨b, 0, none⟩ = false ∧ w.frozen? ⟨b, 1, none⟩ = false ∧ w.frozen? ⟨b, 2, none⟩ = false ∧ w.frozen? ⟨b, 3, none⟩ = false :=
 ⟨(h 0 _ rfl).1, (h 1 _ rfl).1, (h 2 _ rfl).1, (h 3 _ rfl).1, (h 0 _ rfl).2, (h 1 _ rfl).2, (h 2 _ rfl).2, (h 3 _ rfl).2⟩
theorem blk2 {w : World} {b : Nat} {a0 a1 : Value} (h : Blk w b [a0, a1]) :
  w.cell? ⟨b, 0, none⟩ = some a0 ∧ w.cell? ⟨b, 1, none⟩ = some a1 ∧ w.frozen? ⟨b, 0, none⟩ = false ∧ w.frozen? ⟨b, 1, none⟩ = false :=
 ⟨(h 0 _ rfl).1, (h 1 _ rfl).1, (h 0 _ rfl).2, (h 1 _ rfl).2⟩
theorem blk10 {w : World} {b : Nat} {a0 a1 a2 a3 a4 a5 a6 a7 a8 a9 : Value}
  (h0 : w.cell? ⟨b, 0, none⟩ = some a0 ∧ w.frozen? ⟨b, 0, none⟩ = false) (h1 : w.cell? ⟨b, 1, none⟩ = some a1 ∧ w.frozen? ⟨b, 1, none⟩ = false)
  (h2 : w.cell? ⟨b, 2, none⟩ = some a2 ∧ w.frozen? ⟨b, 2, none⟩ = false) (h3 : w.cell? ⟨b, 3, none⟩ = some a3 ∧ w.frozen? ⟨b, 3, none⟩ = false)
  (h4 : w.cell? ⟨b, 4, none⟩ = some a4 ∧ w.frozen? ⟨b, 4, none⟩ = false) (h5 : w.cell? ⟨b, 5, none⟩ = some a5 ∧ w.frozen? ⟨b, 5, none⟩ = false)
  (h6 : w.cell? ⟨b, 6, none⟩ = some a6 ∧ w.frozen? ⟨b, 6, none⟩ = false) (h7 : w.cell? ⟨b, 7, none⟩ = some a7 ∧ w.frozen? ⟨b, 7, none⟩ = false)
  (h8 : w.cell? ⟨b, 8, none⟩ = some a8 ∧ w.frozen? ⟨b, 8, none⟩ = false) (h9 : w.cell? ⟨b, 9, none⟩ = some a9 ∧ w.frozen? ⟨b, 9, none⟩ = false) :
  Blk w b [a0, a1, a2, a3, a4, a5, a6, a7, a8, a9] := by
 intro k v hk
 match k, hk with
 | 0, hk => cases hk; exact h0
 | 1, hk => cases hk; exact h1
 | 2, hk => cases hk; exact h2
 | 3, hk => cases hk; exact h3
 | 4, hk => cases hk; exact h4
 | 5, hk => cases hk; exact h5
 | 6, hk => cases hk; exact h6
 | 7, hk => cases hk; exact h7
 | 8, hk => cases hk; exact h8
 | 9, hk => cases hk; exact h9
 | n + 10, hk => simp at hk
def rdVals (s : ByteArray) (S : Sy.RS) (p e d : Nat) : List Value :=
 [.string s, .int .i64 S.t.kind, .int .i64 S.t.pos, .string ⟨S.t.text.toArray⟩, .int .i64 S.t.num, .int .i64 p, .int .i64 S.f.1, .int .i64 S.f.2, .int .i64 e, .int .i64 d]
structure Rd (w : World) (b : Nat) (s : ByteArray) (z : Sy.Env) (S : Sy.RS) (e d : Nat) : Prop where
 small : s.size ≤ 3000
 num : S.t.num ≤ 9223372036854775807
 cells : ∃ p : Nat, Blk w b (rdVals s S p e d) ∧ p ≤ s.size ∧ (Sy.okA S = true → S.f = (0, 0) ∧ z.stop = s.size ∧ Lx.toks s.size p (s.data.toList.drop p) = (S.rest, z.fin))
def Kp (b : Nat) (w w' : World) : Prop := w.grownBy w' (some b)
theorem Kp.refl (b : Nat) (w : World) : Kp b w w := ⟨rfl, rfl, rfl, Nat.le_refl _, fun _ _ _ => rfl⟩
theorem Kp.trans {b : Nat} {w1 w2 w3 : World} (h : Kp b w1 w2) (k : Kp b w2 w3) : Kp b w1 w3 :=
 ⟨k.os.trans h.os, k.tape.trans h.tape, k.output.trans h.output, Nat.le_trans h.size k.size, fun i hi hn => (k.block i (Nat.lt_of_lt_of_le hi h.size) hn).trans (h.block i hi hn)⟩
theorem Kp.below {b : Nat} {w1 w2 w3 : World} (h : Kp b w1 w2) (k : Below w2.heap.size w2 w3) : Kp b w1 w3 :=
 h.trans ⟨k.os, k.tape, k.output, k.size, fun i hi _ => k.block i hi⟩
theorem Kp.alloc {b : Nat} {w1 w2 : World} (h : Kp b w1 w2) (o : Obj) : Kp b w1 (w2.alloc o) := h.trans (World.grownBy_alloc _ _ _)
theorem Kp.drew {b : Nat} {w1 w2 : World} (h : Kp b w1 w2) : Kp b w1 w2.drew := h.trans ⟨rfl, rfl, rfl, Nat.le_refl _, fun _ _ _ => rfl⟩
theorem Kp.set {b : Nat} {w1 w2 : World} (h : Kp b w1 w2) (k : Nat) (v : Value) : Kp b w1 (w2.setCell ⟨b, k, none⟩ v) :=
 h.trans ⟨rfl, rfl, rfl, by simp [go_sem], fun i _ hn => Below.heap_setCell _ _ _ _ (fun e => hn (by rw [e]))⟩
theorem Kp.other {b : Nat} {w1 w2 : World} (h : Kp b w1 w2) {c : Nat} (hc : w1.heap.size ≤ c) (k : Nat) (v : Value) : Kp b w1 (w2.setCell ⟨c, k, none⟩ v) :=
 ⟨h.os, h.tape, h.output, by simpa [go_sem] using h.size, fun i hi hn => (Below.heap_setCell _ _ _ _ (fun e => by have e2 : i = c := e; omega)).trans (h.block i hi hn)⟩
theorem Rd.lt {w : World} {b e d : Nat} {s : ByteArray} {z : Sy.Env} {S : Sy.RS} (h : Rd w b s z S e d) : b < w.heap.size := by
 obtain ⟨p, h1, _⟩ := h.cells
 exact Blk.lt h1
theorem ok_any (w : World) (b : Nat) (s : ByteArray) (z : Sy.Env) (S : Sy.RS) (e d : Nat) (h : Rd w b s z S e d) :
  Calls Try.prog 11 #[.pointer (some ⟨b, 0, none⟩)] w fun en w' => en = .returned (.bool (Sy.okA S)) ∧ w' = w := by
 obtain ⟨p, hb, _⟩ := h.cells
 have c6 := (hb 6 _ rfl).1
 clear h hb
 go_enter Try.func11, Try.ntmps11
 go_wp2
 go_ret
 refine ⟨ret_bool ?_, rfl⟩
 unfold Sy.okA
 rw [Bool.eq_iff_iff]
 simp
theorem bad_ne {S : Sy.RS} (h : Sy.okA S = false) : ((S.f.1 : Int) != 0) = true := by
 have := Sy.okA_ne h
 simp; omega
theorem ok_ne {S : Sy.RS} (h : Sy.okA S = true) : ((S.f.1 : Int) != 0) = false := by
 have : S.f.1 = 0 := by simpa [Sy.okA] using h
 simp [this]
def NxOk (s : ByteArray) (p : Nat) (t : Lx.Tk) (q f1 f2 : Nat) : Prop :=
 q ≤ s.size ∧ t.num ≤ 9223372036854775807 ∧
 ((f1 = 0 ∧ f2 = 0 ∧ ((Lx.toks s.size p (s.data.toList.drop p) = ([], (0, 0)) ∧ t = ⟨0, s.size, [], 0⟩ ∧ Lx.toks s.size q (s.data.toList.drop q) = ([], (0, 0))) ∨
   Lx.toks s.size p (s.data.toList.drop p) = Lx.tcons t (Lx.toks s.size q (s.data.toList.drop q)))) ∨
  (f1 ≠ 0 ∧ t = ⟨0, 0, [], 0⟩ ∧ Lx.toks s.size p (s.data.toList.drop p) = ([], (f1, f2))))
theorem tok_num {pos : Nat} {l : List UInt8} {t : Lx.Tk} {n : Nat} (h : Lx.tokAt pos l = .ok (t, n)) : t.num ≤ 9223372036854775807 := by
 unfold Lx.tokAt at h
 by_cases h1 : (l.head?.map Lx.isDig).getD false = true
 ·rw [if_pos h1] at h
  by_cases h2 : Lx.okNum (l.takeWhile Lx.isDig) = true
  ·rw [if_pos h2] at h
   simp only [Except.ok.injEq, Prod.mk.injEq] at h; rw [← h.1]; simp only [Lx.okNum, Bool.and_eq_true, decide_eq_true_eq] at h2; exact h2.2
  ·rw [if_neg h2] at h; cases h
 ·rw [if_neg h1] at h
  by_cases h2 : (l.head?.map Lx.isLet).getD false = true
  ·rw [if_pos h2] at h
   by_cases h3 : (l.takeWhile Lx.isNm).length ≤ 20
   ·rw [if_pos h3] at h
    simp only [Except.ok.injEq, Prod.mk.injEq] at h; rw [← h.1]; simp
   ·rw [if_neg h3] at h; cases h
  ·rw [if_neg h2] at h
   by_cases h3 : (l.head?.map Lx.isSg).getD false = true
   ·rw [if_pos h3] at h
    simp only [Except.ok.injEq, Prod.mk.injEq] at h; rw [← h.1]; simp
   ·rw [if_neg h3] at h; cases h
theorem tok_bad {pos : Nat} {l : List UInt8} {k p : Nat} (h : Lx.tokAt pos l = .error (k, p)) : k ≠ 0 := by
 unfold Lx.tokAt at h
 by_cases h1 : (l.head?.map Lx.isDig).getD false = true
 ·rw [if_pos h1] at h
  by_cases h2 : Lx.okNum (l.takeWhile Lx.isDig) = true
  ·rw [if_pos h2] at h; cases h
  ·rw [if_neg h2] at h; cases h; omega
 ·rw [if_neg h1] at h
  by_cases h2 : (l.head?.map Lx.isLet).getD false = true
  ·rw [if_pos h2] at h
   by_cases h3 : (l.takeWhile Lx.isNm).length ≤ 20
   ·rw [if_pos h3] at h; cases h
   ·rw [if_neg h3] at h; cases h; omega
  ·rw [if_neg h2] at h
   by_cases h3 : (l.head?.map Lx.isSg).getD false = true
   ·rw [if_pos h3] at h; cases h
   ·rw [if_neg h3] at h; cases h; omega
def Nx (s : ByteArray) (p : Nat) (w : World) (en : Ending) (w' : World) : Prop :=
 ∃ (t : Lx.Tk) (q f1 f2 : Nat), en = .returned (.tuple #[.agg #[.int .i64 t.kind, .int .i64 t.pos, .string ⟨t.text.toArray⟩, .int .i64 t.num], .int .i64 q, .agg #[.int .i64 f1, .int .i64 f2]]) ∧
  Hid (NxOk s p t q f1 f2) ∧ Hid (Below w.heap.size w w')
theorem nx_any (s : ByteArray) (p : Nat) (w : World) (hs : s.size ≤ 3000) (hp : p ≤ s.size) : Calls Try.prog 14 #[.string s, .int .i64 p] w fun en w' => Nx s p w en w' := by
 refine (next_any s p w hs hp).mono ?_
 rintro en w1 ⟨hb1, j, HP, hcase⟩
 obtain ⟨h1, h2, h3, h4⟩ := HP
 rcases hcase with ⟨hje, rfl⟩ | ⟨hlt, t, n, ht, rfl⟩ | ⟨hlt, fk, fp, ht, rfl⟩
 ·refine ⟨⟨0, s.size, [], 0⟩, s.size, 0, 0, rfl, ⟨Nat.le_refl _, by simp, .inl ⟨rfl, rfl, .inl ⟨?_, rfl, ?_⟩⟩⟩, hb1⟩
  ·rw [← h3, drop_end s j (by omega), Lx.toks_nil]
  ·rw [drop_end s _ (by omega), Lx.toks_nil]
 ·have hq := h4 hlt
  have hl : (s.data.toList.drop j).length = s.size - j := by simp
  have ht2 := ht
  rw [drop_cons s j hlt] at ht2 hl
  have hn := Lx.tokAt_pos ht2
  refine ⟨t, j + n, 0, 0, rfl, ⟨by omega, tok_num ht, .inl ⟨rfl, rfl, .inr ?_⟩⟩, hb1⟩
  rw [← h3, drop_cons s j hlt, Lx.toks_tok _ _ _ _ hq.1 hq.2 ht2, ← drop_cons s j hlt, List.drop_drop]
 ·have hq := h4 hlt
  have ht2 := ht
  rw [drop_cons s j hlt] at ht2
  refine ⟨⟨0, 0, [], 0⟩, 0, fk, fp, rfl, ⟨Nat.zero_le _, by simp, .inr ⟨tok_bad ht, rfl, ?_⟩⟩, hb1⟩
  rw [← h3, drop_cons s j hlt, Lx.toks_err _ _ _ _ hq.1 hq.2 ht2]
theorem nx_state {s : ByteArray} {p q f1 f2 : Nat} {t : Lx.Tk} {z : Sy.Env} {S : Sy.RS} (h : NxOk s p t q f1 f2) (ho : Sy.okA S = true)
  (hS : S.f = (0, 0) ∧ z.stop = s.size ∧ Lx.toks s.size p (s.data.toList.drop p) = (S.rest, z.fin)) :
  ∃ rest, Sy.nextA z S = ⟨t, rest, (f1, f2)⟩ ∧ q ≤ s.size ∧ t.num ≤ 9223372036854775807 ∧
   (Sy.okA ⟨t, rest, (f1, f2)⟩ = true → (f1, f2) = (0, 0) ∧ z.stop = s.size ∧ Lx.toks s.size q (s.data.toList.drop q) = (rest, z.fin)) := by
 obtain ⟨h1, h2, h3⟩ := h
 obtain ⟨_, hz, ht⟩ := hS
 rcases h3 with ⟨rfl, rfl, (⟨ha, rfl, hb⟩ | ha)⟩ | ⟨h5, rfl, h6⟩
 ·rw [ha] at ht
  simp only [Prod.mk.injEq] at ht
  obtain ⟨e1, e2⟩ := ht
  refine ⟨[], ?_, h1, h2, fun _ => ⟨rfl, hz, by rw [hb, ← e2]⟩⟩
  simp [Sy.nextA, ho, ← e1, ← e2, Sy.endTk, hz]
 ·rw [ha] at ht
  simp only [Lx.tcons, Prod.mk.injEq] at ht
  obtain ⟨e1, e2⟩ := ht
  refine ⟨(Lx.toks s.size q (s.data.toList.drop q)).1, ?_, h1, h2, fun _ => ⟨rfl, hz, by rw [← e2]⟩⟩
  simp [Sy.nextA, ho, ← e1]
 ·rw [h6] at ht
  simp only [Prod.mk.injEq] at ht
  obtain ⟨e1, e2⟩ := ht
  refine ⟨[], ?_, h1, h2, fun hk => absurd hk (by simp [Sy.okA, h5])⟩
  simp [Sy.nextA, ho, ← e1, ← e2, h5, Sy.zTk]
theorem next_m (w : World) (b : Nat) (s : ByteArray) (z : Sy.Env) (S : Sy.RS) (e d : Nat) (h : Rd w b s z S e d) :
  Calls Try.prog 9 #[.pointer (some ⟨b, 0, none⟩)] w fun en w' => en = .returned (.tuple #[]) ∧ Rd w' b s z (Sy.nextA z S) e d ∧ Kp b w w' := by
 obtain ⟨p, hb, hp, hS⟩ := h.cells
 have hlt := h.lt
 have H := hid h
 have HB := hid hb
 have HS := hid hS
 have hs := h.small
 have c0 := (hb 0 _ rfl).1
 have c5 := (hb 5 _ rfl).1
 have c6 := (hb 6 _ rfl).1
 clear h hb hS
 cases ho : Sy.okA S with
 | false =>
  have hne := bad_ne ho
  have HN := hid (Sy.next_bad (z := z) ho)
  go_enter Try.func9, Try.ntmps9
  go_wp2
  first
   | go_end0
   | refine bodyPost_ret (results_none rfl _ _ _) rfl ?_
  exact ⟨rfl, by rw [HN.out]; exact H.out, Kp.refl _ _⟩
 | true =>
  have hne := ok_ne ho
  have HO := hid ho
  clear ho
  have hn0 : ¬ b = w.heap.size := by omega
  have hn1 : ¬ b = w.heap.size + 1 := by omega
  have hm0 : w.heap.size ≠ b := by omega
  have hm1 : w.heap.size + 1 ≠ b := by omega
  go_enter Try.func9, Try.ntmps9
  go_wp2_with fail
  go_region_held3 (fun w' => w'.cell? ⟨b, 0, none⟩ = some (.string s) ∧ w'.cell? ⟨b, 5, none⟩ = some (.int .i64 p)) (go_keep)
   ((go_at_call 14; refine (nx_any s p _ hs hp).mono ?_; rintro en w1 ⟨t, q, fk, fp, rfl, HX, hb1⟩; have k0 := (bcell hb1.out).1 b 0 (by simp; omega); have k5 := (bcell hb1.out).1 b 5 (by simp; omega); have hz := hb1.out.size; have hn2 : ¬ b = w1.heap.size := (by simp at hz; omega); have hm2 : w1.heap.size ≠ b := (by simp at hz; omega); have hm3 : w1.heap.size + 1 ≠ b := (by simp at hz; omega); have hn3 : ¬ b = w1.heap.size + 1 := (by simp at hz; omega); simp [Nat.add_one_le_iff] at hz; have hc0 := (bcell hb1.out).1 w.heap.size; have hc1 := (bcell hb1.out).1 (w.heap.size + 1);  have hf0 := (bcell hb1.out).2 w.heap.size; have hf1 := (bcell hb1.out).2 (w.heap.size + 1); simp [go_sem] at hc0 hc1 hf0 hf1; have HB1 : Hid (Blk w1 b (rdVals s S p e d)) := hid (HB.out.of_heap ((hb1.out.block b (by simp; omega)).trans (by first | rfl | exact heap_alloc_old _ _ hlt | exact (heap_alloc_old _ _ (by simp; omega)).trans (heap_alloc_old _ _ hlt))))))
  all_goals
   have hl1 : b < w1.heap.size := Nat.lt_of_lt_of_le hlt (Nat.le_trans (by simp <;> omega) hb1.out.size); have g1 := HB1.out 1 _ rfl; have g2 := HB1.out 2 _ rfl; have g3 := HB1.out 3 _ rfl; have g4 := HB1.out 4 _ rfl; have g5 := HB1.out 5 _ rfl; have g6 := HB1.out 6 _ rfl; have g7 := HB1.out 7 _ rfl
   go_wp2
  all_goals
   obtain ⟨rest, hnx, hq, hnum, hst⟩ := nx_state HX.out HO.out (HS.out HO.out); have g0 := HB1.out 0 _ rfl; have g8 := HB1.out 8 _ rfl; have g9 := HB1.out 9 _ rfl
   go_end0
   refine ⟨rfl, ?_, ?_⟩
   ·rw [hnx]
    refine ⟨hs, hnum, q, ?_, hq, hst⟩; simp only [rdVals]; refine blk10 ?_ ?_ ?_ ?_ ?_ ?_ ?_ ?_ ?_ ?_ <;> (constructor <;> simp [go_sem, g0, g1, g2, g3, g4, g5, g6, g7, g8, g9, hl1])
   ·have HK : Kp b w w1 := Kp.below (by repeat (with_reducible (first | exact Kp.refl _ _ | apply Kp.drew | apply Kp.alloc))) hb1.out
    have hzz := hb1.out.size
    simp at hzz
    repeat (with_reducible (first | exact HK | apply Kp.drew | apply Kp.alloc | apply Kp.set | refine Kp.other ?_ (by first | exact Nat.le_refl _ | omega) _ _))
end Go.Proofs.Ytejciampbnfbhaa

namespace Go.Proofs.Ytejciampbnfbhaa
open Go.RowKit
theorem is_m (w : World) (b : Nat) (s : ByteArray) (z : Sy.Env) (S : Sy.RS) (e d : Nat) (x : List UInt8) (h : Rd w b s z S e d) :
  Calls Try.prog 16 #[.pointer (some ⟨b, 0, none⟩), .string ⟨x.toArray⟩] w fun en w' => en = .returned (.bool (Sy.isA x S)) ∧ w' = w := by
 obtain ⟨p, hb, _⟩ := h.cells
 have H := hid h
 have c1 := (hb 1 _ rfl).1
 have c3 := (hb 3 _ rfl).1
 clear h hb
 cases ho : Sy.okA S with
 | false =>
  have HN := hid (Sy.is_bad (x := x) ho)
  go_enter Try.func16, Try.ntmps16
  go_wp2_with (go_at_call 11; refine (ok_any _ b s z S e d H.out).mono ?_; rintro en w' ⟨rfl, rfl⟩)
  go_ret
  exact ⟨ret_bool HN.out.symm, rfl⟩
 | true =>
  go_enter Try.func16, Try.ntmps16
  go_wp2_with (go_at_call 11; refine (ok_any _ b s z S e d H.out).mono ?_; rintro en w' ⟨rfl, rfl⟩)
  ·rename_i hk
   go_ret
   have hk' : S.t.kind = 3 := by omega
   exact ⟨ret_bool (by simp [Sy.isA, ho, hk']), rfl⟩
  ·rename_i hk1 hk
   go_ret
   have hk' : S.t.kind = 4 := by omega
   exact ⟨ret_bool (by simp [Sy.isA, ho, hk']), rfl⟩
  ·rename_i hk1 hk
   go_ret
   have h1 : ¬ S.t.kind = 3 := by omega
   have h2 : ¬ S.t.kind = 4 := by omega
   exact ⟨ret_bool (by simp [Sy.isA, h1, h2]), rfl⟩
theorem isName_m (w : World) (b : Nat) (s : ByteArray) (z : Sy.Env) (S : Sy.RS) (e d : Nat) (h : Rd w b s z S e d) :
  Calls Try.prog 44 #[.pointer (some ⟨b, 0, none⟩)] w fun en w' => en = .returned (.bool (Sy.isNameA S)) ∧ w' = w := by
 obtain ⟨p, hb, _⟩ := h.cells
 have H := hid h
 have c1 := (hb 1 _ rfl).1
 clear h hb
 cases ho : Sy.okA S with
 | false =>
  go_enter Try.func44, Try.ntmps44
  go_wp2_with (go_at_call 11; refine (ok_any _ b s z S e d H.out).mono ?_; rintro en w' ⟨rfl, rfl⟩)
  go_ret
  exact ⟨ret_bool (by simp [Sy.isNameA, ho]), rfl⟩
 | true =>
  go_enter Try.func44, Try.ntmps44
  go_wp2_with (go_at_call 11; refine (ok_any _ b s z S e d H.out).mono ?_; rintro en w' ⟨rfl, rfl⟩)
  all_goals
   go_ret
   refine ⟨ret_bool ?_, rfl⟩; simp only [Sy.isNameA, ho, Bool.true_and]; rw [Bool.eq_iff_iff]
   simp
   omega
theorem Rd.fault {w w' : World} {b e d : Nat} {s : ByteArray} {z : Sy.Env} {S : Sy.RS} (h : Rd w b s z S e d) {f1 f2 : Nat} (hf : f1 ≠ 0)
  (hw : w' = (w.setCell ⟨b, 6, none⟩ (.int .i64 f1)).setCell ⟨b, 7, none⟩ (.int .i64 f2)) : Rd w' b s z ⟨S.t, S.rest, (f1, f2)⟩ e d := by
 obtain ⟨h1, h2, p, hb, hp, hS⟩ := h
 refine ⟨h1, h2, p, ?_, hp, fun ho => absurd ho (by simp [Sy.okA, hf])⟩
 subst hw
 exact (hb.set 6 (by simp [rdVals]) _).set 7 (by simp [rdVals]) _
theorem Rd.same {w w' : World} {b e d : Nat} {s : ByteArray} {z : Sy.Env} {S : Sy.RS} (h : Rd w b s z S e d) (hw : w'.heap = w.heap) : Rd w' b s z S e d := by
 obtain ⟨h1, h2, p, hb, hp, hS⟩ := h
 exact ⟨h1, h2, p, hb.of_heap (by rw [hw]), hp, hS⟩
theorem drewN_heap (w : World) (n : Nat) : (w.drewN n).heap = w.heap := by simp
theorem Kp.drewN {b : Nat} {w1 w2 : World} (h : Kp b w1 w2) (n : Nat) : Kp b w1 (w2.drewN n) :=
 h.trans ⟨by simp [World.drewN], by simp [World.drewN], by simp [World.drewN], by simp, fun _ _ _ => by rw [drewN_heap]⟩
theorem Rd.drew {w : World} {b e d : Nat} {s : ByteArray} {z : Sy.Env} {S : Sy.RS} (h : Rd w b s z S e d) : Rd w.drew b s z S e d := by
 obtain ⟨h1, h2, p, hb, hp, hS⟩ := h
 exact ⟨h1, h2, p, hb.of_heap rfl, hp, hS⟩
theorem Rd.alloc {w : World} {b e d : Nat} {s : ByteArray} {z : Sy.Env} {S : Sy.RS} (h : Rd w b s z S e d) (o : Obj) : Rd (w.alloc o) b s z S e d := by
 have hl := h.lt
 obtain ⟨h1, h2, p, hb, hp, hS⟩ := h
 exact ⟨h1, h2, p, hb.of_heap (heap_alloc_old w o hl), hp, hS⟩
theorem Rd.below {w w' : World} {b e d : Nat} {s : ByteArray} {z : Sy.Env} {S : Sy.RS} (h : Rd w b s z S e d) {B : Nat} (hw : Below B w w') (hB : b < B) : Rd w' b s z S e d := by
 obtain ⟨h1, h2, p, hb, hp, hS⟩ := h
 exact ⟨h1, h2, p, hb.of_heap (hw.block b hB), hp, hS⟩
theorem Rd.other {w : World} {b e d : Nat} {s : ByteArray} {z : Sy.Env} {S : Sy.RS} (h : Rd w b s z S e d) {c : Nat} (hc : b ≠ c) (k : Nat) (v : Value) : Rd (w.setCell ⟨c, k, none⟩ v) b s z S e d := by
 obtain ⟨h1, h2, p, hb, hp, hS⟩ := h
 exact ⟨h1, h2, p, hb.of_heap (Below.heap_setCell _ _ _ _ hc), hp, hS⟩
theorem no_m (w : World) (b : Nat) (s : ByteArray) (z : Sy.Env) (S : Sy.RS) (e d : Nat) (h : Rd w b s z S e d) :
  Calls Try.prog 12 #[.pointer (some ⟨b, 0, none⟩)] w fun en w' => en = .returned (.tuple #[]) ∧ Rd w' b s z (Sy.noA S) e d ∧ Kp b w w' := by
 obtain ⟨p, hb, hp, hS⟩ := h.cells
 have H := hid h
 have c2 := (hb 2 _ rfl).1
 have c6 := hb 6 _ rfl
 have c7 := hb 7 _ rfl
 clear h hb hS
 cases ho : Sy.okA S with
 | false =>
  have HN := hid (Sy.no_bad ho)
  go_enter Try.func12, Try.ntmps12
  go_wp2_with (go_at_call 11; refine (ok_any _ b s z S e d H.out).mono ?_; rintro en w' ⟨rfl, rfl⟩)
  first
   | go_end0
   | refine bodyPost_ret (results_none rfl _ _ _) rfl ?_
  exact ⟨rfl, by rw [HN.out]; exact H.out, Kp.refl _ _⟩
 | true =>
  have HN : Hid (Sy.noA S = ⟨S.t, S.rest, (4, S.t.pos)⟩) := by simp [Hid, Sy.noA, ho]
  go_enter Try.func12, Try.ntmps12
  go_wp2_with (go_at_call 11; refine (ok_any _ b s z S e d H.out).mono ?_; rintro en w' ⟨rfl, rfl⟩)
  go_end0
  exact ⟨rfl, by rw [HN.out]; exact H.out.fault (by decide) rfl, ((Kp.refl _ _).set _ _).set _ _⟩
theorem has_m (w : World) (b : Nat) (s : ByteArray) (z : Sy.Env) (S : Sy.RS) (e d : Nat) (x : List UInt8) (h : Rd w b s z S e d) :
  Calls Try.prog 21 #[.pointer (some ⟨b, 0, none⟩), .string ⟨x.toArray⟩] w fun en w' => en = .returned (.bool (Sy.isA x S)) ∧ Rd w' b s z (Sy.hasA z x S) e d ∧ Kp b w w' := by
 have H := hid h
 clear h
 cases ho : Sy.isA x S with
 | false =>
  have HN : Hid (Sy.hasA z x S = S) := by simp [Hid, Sy.hasA, ho]
  go_enter Try.func21, Try.ntmps21
  go_wp2_with (go_at_call 16; refine (is_m _ b s z S e d x H.out).mono ?_; rintro en w' ⟨rfl, rfl⟩)
  go_ret
  exact ⟨rfl, by rw [HN.out]; exact H.out, Kp.refl _ _⟩
 | true =>
  have HN : Hid (Sy.hasA z x S = Sy.nextA z S) := by simp [Hid, Sy.hasA, ho]
  go_enter Try.func21, Try.ntmps21
  go_wp2_with (first
   | (go_at_call 16; refine (is_m _ b s z S e d x H.out).mono ?_; rintro en w' ⟨rfl, rfl⟩)
   | (go_at_call 9; refine (next_m _ b s z S e d H.out).mono ?_; rintro en w2 ⟨rfl, hr, hk⟩))
  go_ret
  exact ⟨rfl, by rw [HN.out]; exact hr, hk⟩
theorem has_yes (w : World) (b : Nat) (s : ByteArray) (z : Sy.Env) (S : Sy.RS) (e d : Nat) (x : List UInt8) (h : Rd w b s z S e d) (hi : Sy.isA x S = true) :
  Calls Try.prog 21 #[.pointer (some ⟨b, 0, none⟩), .string ⟨x.toArray⟩] w fun en w' => en = .returned (.bool true) ∧ Hid (Rd w' b s z (Sy.nextA z S) e d) ∧ Hid (Kp b w w') := by
 refine (has_m w b s z S e d x h).mono ?_
 rintro en w' ⟨h1, h2, h3⟩
 rw [show Sy.hasA z x S = Sy.nextA z S by simp [Sy.hasA, hi]] at h2
 exact ⟨by rw [h1, hi], h2, h3⟩
theorem has_no (w : World) (b : Nat) (s : ByteArray) (z : Sy.Env) (S : Sy.RS) (e d : Nat) (x : List UInt8) (h : Rd w b s z S e d) (hi : Sy.isA x S = false) :
  Calls Try.prog 21 #[.pointer (some ⟨b, 0, none⟩), .string ⟨x.toArray⟩] w fun en w' => en = .returned (.bool false) ∧ w = w' := by
 have H := hid h
 clear h
 go_enter Try.func21, Try.ntmps21
 go_wp2_with (go_at_call 16; refine (is_m _ b s z S e d x H.out).mono ?_; rintro en w' ⟨rfl, rfl⟩)
 go_ret
 exact ⟨rfl, rfl⟩
theorem must_m (w : World) (b : Nat) (s : ByteArray) (z : Sy.Env) (S : Sy.RS) (e d : Nat) (x : List UInt8) (h : Rd w b s z S e d) :
  Calls Try.prog 18 #[.pointer (some ⟨b, 0, none⟩), .string ⟨x.toArray⟩] w fun en w' => en = .returned (.tuple #[]) ∧ Rd w' b s z (Sy.mustA z x S) e d ∧ Kp b w w' := by
 have H := hid h
 clear h
 cases ho : Sy.isA x S with
 | false =>
  have HN : Hid (Sy.mustA z x S = Sy.noA (Sy.hasA z x S)) := by simp [Hid, Sy.mustA, Sy.hasA, ho]
  go_enter Try.func18, Try.ntmps18
  go_wp2_with (first
   | (go_at_call 21; refine (has_m _ b s z S e d x H.out).mono ?_; rintro en w1 ⟨rfl, hr, hk⟩; have HR := hid hr; have HK := hid hk; clear hr hk)
   | (go_at_call 12; refine (no_m _ b s z _ e d HR.out).mono ?_; rintro en w2 ⟨rfl, hr2, hk2⟩))
  first
   | go_end0
   | refine bodyPost_ret (results_none rfl _ _ _) rfl ?_
  exact ⟨rfl, by rw [HN.out]; exact hr2, HK.out.trans hk2⟩
 | true =>
  have HN : Hid (Sy.mustA z x S = Sy.hasA z x S) := by simp [Hid, Sy.mustA, Sy.hasA, ho]
  go_enter Try.func18, Try.ntmps18
  go_wp2_with (go_at_call 21; refine (has_m _ b s z S e d x H.out).mono ?_; rintro en w1 ⟨rfl, hr, hk⟩; have HR := hid hr; have HK := hid hk; clear hr hk)
  first
   | go_end0
   | refine bodyPost_ret (results_none rfl _ _ _) rfl ?_
  exact ⟨rfl, by rw [HN.out]; exact HR.out, HK.out⟩
theorem node_m (w : World) (k p : Int) (a : Option Addr) (n c : Nat) :
  Calls Try.prog 15 #[.int .i64 k, .int .i64 p, .slice a n c] w fun en w' => en = .returned (.agg #[.int .i64 k, .int .i64 p, .string ⟨#[]⟩, .int .i64 0, .slice a n c]) ∧ Hid (Below w.heap.size w w') := by
 go_enter Try.func15, Try.ntmps15
 go_wp2
 refine bodyPost_ret (v := .agg #[.int .i64 k, .int .i64 p, .string ⟨#[]⟩, .int .i64 0, .slice a n c]) (by simp [results, Try.results15, go_sem]) rfl ⟨rfl, hid ?_⟩
 exact (Below.refl _ _).alloc (Nat.le_refl _) _
theorem named_m (w : World) (k p : Int) (x : ByteArray) (a : Option Addr) (n c : Nat) :
  Calls Try.prog 20 #[.int .i64 k, .int .i64 p, .string x, .slice a n c] w fun en w' => en = .returned (.agg #[.int .i64 k, .int .i64 p, .string x, .int .i64 0, .slice a n c]) ∧ Hid (Below w.heap.size w w') := by
 go_enter Try.func20, Try.ntmps20
 go_wp2
 refine bodyPost_ret (v := .agg #[.int .i64 k, .int .i64 p, .string x, .int .i64 0, .slice a n c]) (by simp [results, Try.results20, go_sem]) rfl ⟨rfl, hid ?_⟩
 exact (Below.refl _ _).alloc (Nat.le_refl _) _
theorem Blk.kp {w w' : World} {b c : Nat} {v : Value} {vs : List Value} (h : Blk w c (v :: vs)) (hk : Kp b w w') (hn : c ≠ b) : Blk w' c (v :: vs) := h.of_heap (hk.block c h.lt (fun e => hn (Option.some.inj e)))
theorem name_m (w : World) (b : Nat) (s : ByteArray) (z : Sy.Env) (S : Sy.RS) (e d : Nat) (h : Rd w b s z S e d) :
  Calls Try.prog 17 #[.pointer (some ⟨b, 0, none⟩)] w fun en w' => en = .returned (.tuple #[.string ⟨(Sy.nameA z S).1.1.toArray⟩, .int .i64 (Sy.nameA z S).1.2]) ∧ Rd w' b s z (Sy.nameA z S).2 e d ∧ Kp b w w' := by
 obtain ⟨p, hb, hp, hS⟩ := h.cells
 have H := hid h
 have hlt := h.lt
 have c1 := (hb 1 _ rfl).1
 have c2 := (hb 2 _ rfl).1
 have c3 := (hb 3 _ rfl).1
 have c4 := (hb 4 _ rfl).1
 clear h hb hS
 cases ho : Sy.isNameA S with
 | false =>
  have HN : Hid (Sy.nameA z S = (([], 0), Sy.noA S)) := by simp [Hid, Sy.nameA, ho]
  rcases (show Sy.okA S = false ∨ (Sy.okA S = true ∧ ((S.t.kind : Int) != 2) = true) from by
   cases hk : Sy.okA S with
   | false => exact .inl rfl
   | true =>
    refine .inr ⟨rfl, ?_⟩; have : S.t.kind ≠ 2 := by simpa [Sy.isNameA, hk] using ho
    simp; omega) with hk | ⟨hk, hk2⟩
  all_goals
   clear ho
   go_enter Try.func17, Try.ntmps17
   go_wp2_with (first
    | (go_at_call 11; refine (ok_any _ b s z S e d (H.out.alloc _)).mono ?_; rintro en w' ⟨rfl, rfl⟩)
    | (go_at_call 12; refine (no_m _ b s z S e d (H.out.alloc _)).mono ?_; rintro en w2 ⟨rfl, hr, hkp⟩; have HR := hid hr; have HK := hid hkp; clear hr hkp))
   go_ret2
   exact ⟨by rw [HN.out]; rfl, by rw [HN.out]; exact HR.out, (World.grownBy_alloc _ _ _).trans HK.out⟩
 | true =>
  have HN : Hid (Sy.nameA z S = ((S.t.text, S.t.pos), Sy.nextA z S)) := by simp [Hid, Sy.nameA, ho]
  have hk : Sy.okA S = true := by simp [Sy.isNameA] at ho; exact ho.1
  have hk2 : ((S.t.kind : Int) != 2) = false := by simp [Sy.isNameA] at ho; simp [ho.2]
  have hne : w.heap.size ≠ b := by omega
  clear ho
  go_enter Try.func17, Try.ntmps17
  go_wp2_with (first
    | (go_at_call 11; refine (ok_any _ b s z S e d (H.out.alloc _)).mono ?_; rintro en w' ⟨rfl, rfl⟩)
    | (go_at_call 9; refine (next_m _ b s z S e d (H.out.alloc _)).mono ?_; rintro en w2 ⟨rfl, hr, hkp⟩; have HR := hid hr; have HK := hid hkp; have HBK := hid ((Blk.new _ [_, _, _, _] _).kp hkp hne); obtain ⟨q0, q1, q2, q3, _⟩ := blk4 HBK.out; clear hr hkp))
  go_quiet (fail)
  go_wp2
  go_ret2
  exact ⟨by rw [HN.out]; rfl, by rw [HN.out]; exact HR.out.same (by simp), (((Kp.refl b w).alloc _).trans HK.out).drewN _⟩
end Go.Proofs.Ytejciampbnfbhaa
