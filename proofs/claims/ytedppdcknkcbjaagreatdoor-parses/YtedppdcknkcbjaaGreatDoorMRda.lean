/-
  The document's reader in memory, and what its small methods do: ok, next, no, is, has, must, name, isName; what Node and named make.
  What the reader's small methods do: no, is, has, must, name, isName; what Node and named make.
  Trees in memory: a list of kids in a block; how it is carried from world to world; what a call that reads a tree answers.
-/
import Derived.Test.YtedppdcknkcbjaaGreatDoorMRefc
import Derived.Test.YtedppdcknkcbjaaGreatDoorMSn
import Derived.Deep.RegionHeld3
import Derived.Deep.DrawnRows
import Derived.Deep.LoopGhost
set_option linter.unusedVariables false
set_option linter.unusedSimpArgs false
namespace Go.Proofs.YtedppdcknkcbjaaGreatDoor
open Go.RowKit

/-- A block's cells, none of them frozen. -/
def Blk (w : World) (b : Nat) (vs : List Value) : Prop := ∀ k v, vs[k]? = some v → w.cell? ⟨b, k, none⟩ = some v ∧ w.frozen? ⟨b, k, none⟩ = false

theorem Blk.of_heap {w w' : World} {b : Nat} {vs : List Value} (h : Blk w b vs) (hh : w'.heap[b]? = w.heap[b]?) : Blk w' b vs := fun k v hk =>
  ⟨(World.cell?_of_block (a := ⟨b, k, none⟩) hh).trans (h k v hk).1, (World.frozen?_of_block (a := ⟨b, k, none⟩) hh).trans (h k v hk).2⟩
theorem Blk.lt {w : World} {b : Nat} {v : Value} {vs : List Value} (h : Blk w b (v :: vs)) : b < w.heap.size := World.block_lt_of_cell? w ⟨b, 0, none⟩ (h 0 v rfl).1
theorem Blk.set {w : World} {b : Nat} {vs : List Value} (h : Blk w b vs) (k : Nat) (hk : k < vs.length) (v : Value) : Blk (w.setCell ⟨b, k, none⟩ v) b (vs.set k v) := by
  intro j u hj
  have ⟨c0, f0⟩ := h k vs[k] (List.getElem?_eq_getElem hk)
  by_cases e : k = j
  · subst e
    rw [List.getElem?_set_self hk] at hj
    cases hj
    exact ⟨by simp [go_sem, c0], by simp [go_sem, f0]⟩
  · rw [List.getElem?_set_ne e] at hj
    obtain ⟨c1, f1⟩ := h j u hj
    have e' : ¬ j = k := fun h => e h.symm
    exact ⟨by simp [go_sem, c1], by simp [go_sem, f1]⟩

theorem Blk.new (x : World) (l : List Value) (e : TypeId) : Blk (x.alloc (.cells l.toArray e)) x.heap.size l := by
  intro k v hk
  have hh := heap_alloc_new x (.cells l.toArray e)
  refine ⟨?_, ?_⟩
  · rw [cell_of_row _ x.heap.size k l.toArray e (0, 0) hh]
    simpa using hk
  · unfold World.frozen?
    rw [hh]
    simp
theorem Blk.past {x w2 : World} {b : Nat} {v : Value} {l : List Value} (h : Blk x b (v :: l)) (hb : Below x.heap.size x w2) : Blk w2 b (v :: l) := h.of_heap (hb.block b h.lt)
theorem Blk.alloc {x : World} {b : Nat} {v : Value} {l : List Value} (h : Blk x b (v :: l)) (o : Obj) : Blk (x.alloc o) b (v :: l) := h.of_heap (heap_alloc_old x o h.lt)
theorem blk4 {w : World} {b : Nat} {a0 a1 a2 a3 : Value} (h : Blk w b [a0, a1, a2, a3]) :
    w.cell? ⟨b, 0, none⟩ = some a0 ∧ w.cell? ⟨b, 1, none⟩ = some a1 ∧ w.cell? ⟨b, 2, none⟩ = some a2 ∧ w.cell? ⟨b, 3, none⟩ = some a3 ∧
    w.frozen? ⟨b, 0, none⟩ = false ∧ w.frozen? ⟨b, 1, none⟩ = false ∧ w.frozen? ⟨b, 2, none⟩ = false ∧ w.frozen? ⟨b, 3, none⟩ = false :=
  ⟨(h 0 _ rfl).1, (h 1 _ rfl).1, (h 2 _ rfl).1, (h 3 _ rfl).1, (h 0 _ rfl).2, (h 1 _ rfl).2, (h 2 _ rfl).2, (h 3 _ rfl).2⟩
theorem blk2 {w : World} {b : Nat} {a0 a1 : Value} (h : Blk w b [a0, a1]) :
    w.cell? ⟨b, 0, none⟩ = some a0 ∧ w.cell? ⟨b, 1, none⟩ = some a1 ∧ w.frozen? ⟨b, 0, none⟩ = false ∧ w.frozen? ⟨b, 1, none⟩ = false :=
  ⟨(h 0 _ rfl).1, (h 1 _ rfl).1, (h 0 _ rfl).2, (h 1 _ rfl).2⟩
/-- Ten cells make a reader's block. -/
theorem blk10 {w : World} {b : Nat} {a0 a1 a2 a3 a4 a5 a6 a7 a8 a9 : Value}
    (h0 : w.cell? ⟨b, 0, none⟩ = some a0 ∧ w.frozen? ⟨b, 0, none⟩ = false) (h1 : w.cell? ⟨b, 1, none⟩ = some a1 ∧ w.frozen? ⟨b, 1, none⟩ = false)
    (h2 : w.cell? ⟨b, 2, none⟩ = some a2 ∧ w.frozen? ⟨b, 2, none⟩ = false) (h3 : w.cell? ⟨b, 3, none⟩ = some a3 ∧ w.frozen? ⟨b, 3, none⟩ = false)
    (h4 : w.cell? ⟨b, 4, none⟩ = some a4 ∧ w.frozen? ⟨b, 4, none⟩ = false) (h5 : w.cell? ⟨b, 5, none⟩ = some a5 ∧ w.frozen? ⟨b, 5, none⟩ = false)
    (h6 : w.cell? ⟨b, 6, none⟩ = some a6 ∧ w.frozen? ⟨b, 6, none⟩ = false) (h7 : w.cell? ⟨b, 7, none⟩ = some a7 ∧ w.frozen? ⟨b, 7, none⟩ = false)
    (h8 : w.cell? ⟨b, 8, none⟩ = some a8 ∧ w.frozen? ⟨b, 8, none⟩ = false) (h9 : w.cell? ⟨b, 9, none⟩ = some a9 ∧ w.frozen? ⟨b, 9, none⟩ = false) :
    Blk w b [a0, a1, a2, a3, a4, a5, a6, a7, a8, a9] := by
  intro k v hk
  match k, hk with
  | 0, hk => cases hk; exact h0
  | 1, hk => cases hk; exact h1
  | 2, hk => cases hk; exact h2
  | 3, hk => cases hk; exact h3
  | 4, hk => cases hk; exact h4
  | 5, hk => cases hk; exact h5
  | 6, hk => cases hk; exact h6
  | 7, hk => cases hk; exact h7
  | 8, hk => cases hk; exact h8
  | 9, hk => cases hk; exact h9
  | n + 10, hk => simp at hk

/-- The cells of a reader. -/
def rdVals (s : ByteArray) (S : Sy.RS) (p e d : Nat) : List Value :=
  [.string s, .int .i64 S.t.kind, .int .i64 S.t.pos, .string ⟨S.t.text.toArray⟩, .int .i64 S.t.num, .int .i64 p, .int .i64 S.f.1, .int .i64 S.f.2, .int .i64 e, .int .i64 d]

/-- The reader in a block, its state as said. -/
structure Rd (w : World) (b : Nat) (s : ByteArray) (z : Sy.Env) (S : Sy.RS) (e d : Nat) : Prop where
  small : s.size ≤ 3000
  num : S.t.num ≤ 9223372036854775807
  cells : ∃ p : Nat, Blk w b (rdVals s S p e d) ∧ p ≤ s.size ∧ (Sy.okA S = true → S.f = (0, 0) ∧ z.stop = s.size ∧ Lx.toks s.size p (s.data.toList.drop p) = (S.rest, z.fin))

/-- Nothing else that was there has turned. -/
def Kp (b : Nat) (w w' : World) : Prop := w.grownBy w' (some b)
theorem Kp.refl (b : Nat) (w : World) : Kp b w w := ⟨rfl, rfl, rfl, Nat.le_refl _, fun _ _ _ => rfl⟩
theorem Kp.trans {b : Nat} {w1 w2 w3 : World} (h : Kp b w1 w2) (k : Kp b w2 w3) : Kp b w1 w3 :=
  ⟨k.os.trans h.os, k.tape.trans h.tape, k.output.trans h.output, Nat.le_trans h.size k.size, fun i hi hn => (k.block i (Nat.lt_of_lt_of_le hi h.size) hn).trans (h.block i hi hn)⟩
theorem Kp.below {b : Nat} {w1 w2 w3 : World} (h : Kp b w1 w2) (k : Below w2.heap.size w2 w3) : Kp b w1 w3 :=
  h.trans ⟨k.os, k.tape, k.output, k.size, fun i hi _ => k.block i hi⟩
theorem Kp.alloc {b : Nat} {w1 w2 : World} (h : Kp b w1 w2) (o : Obj) : Kp b w1 (w2.alloc o) := h.trans (World.grownBy_alloc _ _ _)
theorem Kp.drew {b : Nat} {w1 w2 : World} (h : Kp b w1 w2) : Kp b w1 w2.drew := h.trans ⟨rfl, rfl, rfl, Nat.le_refl _, fun _ _ _ => rfl⟩
theorem Kp.set {b : Nat} {w1 w2 : World} (h : Kp b w1 w2) (k : Nat) (v : Value) : Kp b w1 (w2.setCell ⟨b, k, none⟩ v) :=
  h.trans ⟨rfl, rfl, rfl, by simp [go_sem], fun i _ hn => Below.heap_setCell _ _ _ _ (fun e => hn (by rw [e]))⟩

theorem Kp.other {b : Nat} {w1 w2 : World} (h : Kp b w1 w2) {c : Nat} (hc : w1.heap.size ≤ c) (k : Nat) (v : Value) : Kp b w1 (w2.setCell ⟨c, k, none⟩ v) :=
  ⟨h.os, h.tape, h.output, by simpa [go_sem] using h.size, fun i hi hn => (Below.heap_setCell _ _ _ _ (fun e => by have e2 : i = c := e; omega)).trans (h.block i hi hn)⟩
theorem Rd.lt {w : World} {b e d : Nat} {s : ByteArray} {z : Sy.Env} {S : Sy.RS} (h : Rd w b s z S e d) : b < w.heap.size := by
  obtain ⟨p, h1, _⟩ := h.cells
  exact Blk.lt h1

set_option maxRecDepth 100000 in
set_option maxHeartbeats 1000000 in
theorem ok_any (w : World) (b : Nat) (s : ByteArray) (z : Sy.Env) (S : Sy.RS) (e d : Nat) (h : Rd w b s z S e d) :
    Calls Tryz.prog 17 #[.pointer (some ⟨b, 0, none⟩)] w fun en w' => en = .returned (.bool (Sy.okA S)) ∧ w' = w := by
  obtain ⟨p, hb, _⟩ := h.cells
  have c6 := (hb 6 _ rfl).1
  clear h hb
  go_enter Tryz.func17, Tryz.ntmps17
  go_wp2
  go_ret
  refine ⟨ret_bool ?_, rfl⟩
  unfold Sy.okA
  rw [Bool.eq_iff_iff]
  simp

theorem bad_ne {S : Sy.RS} (h : Sy.okA S = false) : ((S.f.1 : Int) != 0) = true := by
  have := Sy.okA_ne h
  simp; omega
theorem ok_ne {S : Sy.RS} (h : Sy.okA S = true) : ((S.f.1 : Int) != 0) = false := by
  have : S.f.1 = 0 := by simpa [Sy.okA] using h
  simp [this]

/-- What the next token is, said of the tokens of the text from a place on. -/
def NxOk (s : ByteArray) (p : Nat) (t : Lx.Tk) (q f1 f2 : Nat) : Prop :=
  q ≤ s.size ∧ t.num ≤ 9223372036854775807 ∧
  ((f1 = 0 ∧ f2 = 0 ∧ ((Lx.toks s.size p (s.data.toList.drop p) = ([], (0, 0)) ∧ t = ⟨0, s.size, [], 0⟩ ∧ Lx.toks s.size q (s.data.toList.drop q) = ([], (0, 0))) ∨
      Lx.toks s.size p (s.data.toList.drop p) = Lx.tcons t (Lx.toks s.size q (s.data.toList.drop q)))) ∨
   (f1 ≠ 0 ∧ t = ⟨0, 0, [], 0⟩ ∧ Lx.toks s.size p (s.data.toList.drop p) = ([], (f1, f2))))

theorem tok_num {pos : Nat} {l : List UInt8} {t : Lx.Tk} {n : Nat} (h : Lx.tokAt pos l = .ok (t, n)) : t.num ≤ 9223372036854775807 := by
  unfold Lx.tokAt at h
  by_cases h1 : (l.head?.map Lx.isDig).getD false = true
  · rw [if_pos h1] at h
    by_cases h2 : Lx.okNum (l.takeWhile Lx.isDig) = true
    · rw [if_pos h2] at h
      simp only [Except.ok.injEq, Prod.mk.injEq] at h
      rw [← h.1]
      simp only [Lx.okNum, Bool.and_eq_true, decide_eq_true_eq] at h2
      exact h2.2
    · rw [if_neg h2] at h; cases h
  · rw [if_neg h1] at h
    by_cases h2 : (l.head?.map Lx.isLet).getD false = true
    · rw [if_pos h2] at h
      by_cases h3 : (l.takeWhile Lx.isNm).length ≤ 20
      · rw [if_pos h3] at h
        simp only [Except.ok.injEq, Prod.mk.injEq] at h
        rw [← h.1]; simp
      · rw [if_neg h3] at h; cases h
    · rw [if_neg h2] at h
      by_cases h3 : (l.head?.map Lx.isSg).getD false = true
      · rw [if_pos h3] at h
        simp only [Except.ok.injEq, Prod.mk.injEq] at h
        rw [← h.1]; simp
      · rw [if_neg h3] at h; cases h
theorem tok_bad {pos : Nat} {l : List UInt8} {k p : Nat} (h : Lx.tokAt pos l = .error (k, p)) : k ≠ 0 := by
  unfold Lx.tokAt at h
  by_cases h1 : (l.head?.map Lx.isDig).getD false = true
  · rw [if_pos h1] at h
    by_cases h2 : Lx.okNum (l.takeWhile Lx.isDig) = true
    · rw [if_pos h2] at h; cases h
    · rw [if_neg h2] at h; cases h; omega
  · rw [if_neg h1] at h
    by_cases h2 : (l.head?.map Lx.isLet).getD false = true
    · rw [if_pos h2] at h
      by_cases h3 : (l.takeWhile Lx.isNm).length ≤ 20
      · rw [if_pos h3] at h; cases h
      · rw [if_neg h3] at h; cases h; omega
    · rw [if_neg h2] at h
      by_cases h3 : (l.head?.map Lx.isSg).getD false = true
      · rw [if_pos h3] at h; cases h
      · rw [if_neg h3] at h; cases h; omega

def Nx (s : ByteArray) (p : Nat) (w : World) (en : Ending) (w' : World) : Prop :=
  ∃ (t : Lx.Tk) (q f1 f2 : Nat), en = .returned (.tuple #[.agg #[.int .i64 t.kind, .int .i64 t.pos, .string ⟨t.text.toArray⟩, .int .i64 t.num], .int .i64 q, .agg #[.int .i64 f1, .int .i64 f2]]) ∧
    Hid (NxOk s p t q f1 f2) ∧ Hid (Below w.heap.size w w')

theorem nx_any (s : ByteArray) (p : Nat) (w : World) (hs : s.size ≤ 3000) (hp : p ≤ s.size) : Calls Tryz.prog 36 #[.string s, .int .i64 p] w fun en w' => Nx s p w en w' := by
  refine (next_any s p w hs hp).mono ?_
  rintro en w1 ⟨hb1, j, HP, hcase⟩
  obtain ⟨h1, h2, h3, h4⟩ := HP
  rcases hcase with ⟨hje, rfl⟩ | ⟨hlt, t, n, ht, rfl⟩ | ⟨hlt, fk, fp, ht, rfl⟩
  · refine ⟨⟨0, s.size, [], 0⟩, s.size, 0, 0, rfl, ⟨Nat.le_refl _, by simp, .inl ⟨rfl, rfl, .inl ⟨?_, rfl, ?_⟩⟩⟩, hb1⟩
    · rw [← h3, drop_end s j (by omega), Lx.toks_nil]
    · rw [drop_end s _ (by omega), Lx.toks_nil]
  · have hq := h4 hlt
    have hl : (s.data.toList.drop j).length = s.size - j := by simp
    have ht2 := ht
    rw [drop_cons s j hlt] at ht2 hl
    have hn := Lx.tokAt_pos ht2
    refine ⟨t, j + n, 0, 0, rfl, ⟨by omega, tok_num ht, .inl ⟨rfl, rfl, .inr ?_⟩⟩, hb1⟩
    rw [← h3, drop_cons s j hlt, Lx.toks_tok _ _ _ _ hq.1 hq.2 ht2, ← drop_cons s j hlt, List.drop_drop]
  · have hq := h4 hlt
    have ht2 := ht
    rw [drop_cons s j hlt] at ht2
    refine ⟨⟨0, 0, [], 0⟩, 0, fk, fp, rfl, ⟨Nat.zero_le _, by simp, .inr ⟨tok_bad ht, rfl, ?_⟩⟩, hb1⟩
    rw [← h3, drop_cons s j hlt, Lx.toks_err _ _ _ _ hq.1 hq.2 ht2]

/-- The state behind it. -/
theorem nx_state {s : ByteArray} {p q f1 f2 : Nat} {t : Lx.Tk} {z : Sy.Env} {S : Sy.RS} (h : NxOk s p t q f1 f2) (ho : Sy.okA S = true)
    (hS : S.f = (0, 0) ∧ z.stop = s.size ∧ Lx.toks s.size p (s.data.toList.drop p) = (S.rest, z.fin)) :
    ∃ rest, Sy.nextA z S = ⟨t, rest, (f1, f2)⟩ ∧ q ≤ s.size ∧ t.num ≤ 9223372036854775807 ∧
      (Sy.okA ⟨t, rest, (f1, f2)⟩ = true → (f1, f2) = (0, 0) ∧ z.stop = s.size ∧ Lx.toks s.size q (s.data.toList.drop q) = (rest, z.fin)) := by
  obtain ⟨h1, h2, h3⟩ := h
  obtain ⟨_, hz, ht⟩ := hS
  rcases h3 with ⟨rfl, rfl, (⟨ha, rfl, hb⟩ | ha)⟩ | ⟨h5, rfl, h6⟩
  · rw [ha] at ht
    simp only [Prod.mk.injEq] at ht
    obtain ⟨e1, e2⟩ := ht
    refine ⟨[], ?_, h1, h2, fun _ => ⟨rfl, hz, by rw [hb, ← e2]⟩⟩
    simp [Sy.nextA, ho, ← e1, ← e2, Sy.endTk, hz]
  · rw [ha] at ht
    simp only [Lx.tcons, Prod.mk.injEq] at ht
    obtain ⟨e1, e2⟩ := ht
    refine ⟨(Lx.toks s.size q (s.data.toList.drop q)).1, ?_, h1, h2, fun _ => ⟨rfl, hz, by rw [← e2]⟩⟩
    simp [Sy.nextA, ho, ← e1]
  · rw [h6] at ht
    simp only [Prod.mk.injEq] at ht
    obtain ⟨e1, e2⟩ := ht
    refine ⟨[], ?_, h1, h2, fun hk => absurd hk (by simp [Sy.okA, h5])⟩
    simp [Sy.nextA, ho, ← e1, ← e2, h5, Sy.zTk]

set_option maxRecDepth 100000 in
set_option maxHeartbeats 4000000 in
theorem next_m (w : World) (b : Nat) (s : ByteArray) (z : Sy.Env) (S : Sy.RS) (e d : Nat) (h : Rd w b s z S e d) :
    Calls Tryz.prog 15 #[.pointer (some ⟨b, 0, none⟩)] w fun en w' => en = .returned (.tuple #[]) ∧ Rd w' b s z (Sy.nextA z S) e d ∧ Kp b w w' := by
  obtain ⟨p, hb, hp, hS⟩ := h.cells
  have hlt := h.lt
  have H := hid h
  have HB := hid hb
  have HS := hid hS
  have hs := h.small
  have c0 := (hb 0 _ rfl).1
  have c5 := (hb 5 _ rfl).1
  have c6 := (hb 6 _ rfl).1
  clear h hb hS
  cases ho : Sy.okA S with
  | false =>
    have hne := bad_ne ho
    have HN := hid (Sy.next_bad (z := z) ho)
    go_enter Tryz.func15, Tryz.ntmps15
    go_wp2
    first
      | go_end0
      | refine bodyPost_ret (results_none rfl _ _ _) rfl ?_
    exact ⟨rfl, by rw [HN.out]; exact H.out, Kp.refl _ _⟩
  | true =>
    have hne := ok_ne ho
    have HO := hid ho
    clear ho
    have hn0 : ¬ b = w.heap.size := by omega
    have hn1 : ¬ b = w.heap.size + 1 := by omega
    have hm0 : w.heap.size ≠ b := by omega
    have hm1 : w.heap.size + 1 ≠ b := by omega
    go_enter Tryz.func15, Tryz.ntmps15
    go_wp2_with fail
    go_region_held3 (fun w' => w'.cell? ⟨b, 0, none⟩ = some (.string s) ∧ w'.cell? ⟨b, 5, none⟩ = some (.int .i64 p)) (go_keep)
      ((go_at_call 36; refine (nx_any s p _ hs hp).mono ?_; rintro en w1 ⟨t, q, fk, fp, rfl, HX, hb1⟩; have k0 := (bcell hb1.out).1 b 0 (by simp; omega); have k5 := (bcell hb1.out).1 b 5 (by simp; omega); have hz := hb1.out.size; have hn2 : ¬ b = w1.heap.size := (by simp at hz; omega); have hm2 : w1.heap.size ≠ b := (by simp at hz; omega); have hm3 : w1.heap.size + 1 ≠ b := (by simp at hz; omega); have hn3 : ¬ b = w1.heap.size + 1 := (by simp at hz; omega); simp [Nat.add_one_le_iff] at hz; have hc0 := (bcell hb1.out).1 w.heap.size; have hc1 := (bcell hb1.out).1 (w.heap.size + 1);  have hf0 := (bcell hb1.out).2 w.heap.size; have hf1 := (bcell hb1.out).2 (w.heap.size + 1); simp [go_sem] at hc0 hc1 hf0 hf1; have HB1 : Hid (Blk w1 b (rdVals s S p e d)) := hid (HB.out.of_heap ((hb1.out.block b (by simp; omega)).trans (by first | rfl | exact heap_alloc_old _ _ hlt | exact (heap_alloc_old _ _ (by simp; omega)).trans (heap_alloc_old _ _ hlt))))))
    all_goals
      have hl1 : b < w1.heap.size := Nat.lt_of_lt_of_le hlt (Nat.le_trans (by simp <;> omega) hb1.out.size)
      have g1 := HB1.out 1 _ rfl
      have g2 := HB1.out 2 _ rfl
      have g3 := HB1.out 3 _ rfl
      have g4 := HB1.out 4 _ rfl
      have g5 := HB1.out 5 _ rfl
      have g6 := HB1.out 6 _ rfl
      have g7 := HB1.out 7 _ rfl
      go_wp2
    all_goals
      obtain ⟨rest, hnx, hq, hnum, hst⟩ := nx_state HX.out HO.out (HS.out HO.out)
      have g0 := HB1.out 0 _ rfl
      have g8 := HB1.out 8 _ rfl
      have g9 := HB1.out 9 _ rfl
      go_end0
      refine ⟨rfl, ?_, ?_⟩
      · rw [hnx]
        refine ⟨hs, hnum, q, ?_, hq, hst⟩
        simp only [rdVals]
        refine blk10 ?_ ?_ ?_ ?_ ?_ ?_ ?_ ?_ ?_ ?_ <;> (constructor <;> simp [go_sem, g0, g1, g2, g3, g4, g5, g6, g7, g8, g9, hl1])
      · have HK : Kp b w w1 := Kp.below (by repeat (with_reducible (first | exact Kp.refl _ _ | apply Kp.drew | apply Kp.alloc))) hb1.out
        have hzz := hb1.out.size
        simp at hzz
        repeat (with_reducible (first | exact HK | apply Kp.drew | apply Kp.alloc | apply Kp.set | refine Kp.other ?_ (by first | exact Nat.le_refl _ | omega) _ _))
end Go.Proofs.YtedppdcknkcbjaaGreatDoor

namespace Go.Proofs.YtedppdcknkcbjaaGreatDoor
open Go.RowKit

set_option maxRecDepth 100000 in
set_option maxHeartbeats 1000000 in
theorem is_m (w : World) (b : Nat) (s : ByteArray) (z : Sy.Env) (S : Sy.RS) (e d : Nat) (x : List UInt8) (h : Rd w b s z S e d) :
    Calls Tryz.prog 38 #[.pointer (some ⟨b, 0, none⟩), .string ⟨x.toArray⟩] w fun en w' => en = .returned (.bool (Sy.isA x S)) ∧ w' = w := by
  obtain ⟨p, hb, _⟩ := h.cells
  have H := hid h
  have c1 := (hb 1 _ rfl).1
  have c3 := (hb 3 _ rfl).1
  clear h hb
  cases ho : Sy.okA S with
  | false =>
    have HN := hid (Sy.is_bad (x := x) ho)
    go_enter Tryz.func38, Tryz.ntmps38
    go_wp2_with (go_at_call 17; refine (ok_any _ b s z S e d H.out).mono ?_; rintro en w' ⟨rfl, rfl⟩)
    go_ret
    exact ⟨ret_bool HN.out.symm, rfl⟩
  | true =>
    go_enter Tryz.func38, Tryz.ntmps38
    go_wp2_with (go_at_call 17; refine (ok_any _ b s z S e d H.out).mono ?_; rintro en w' ⟨rfl, rfl⟩)
    · rename_i hk
      go_ret
      have hk' : S.t.kind = 3 := by omega
      exact ⟨ret_bool (by simp [Sy.isA, ho, hk']), rfl⟩
    · rename_i hk1 hk
      go_ret
      have hk' : S.t.kind = 4 := by omega
      exact ⟨ret_bool (by simp [Sy.isA, ho, hk']), rfl⟩
    · rename_i hk1 hk
      go_ret
      have h1 : ¬ S.t.kind = 3 := by omega
      have h2 : ¬ S.t.kind = 4 := by omega
      exact ⟨ret_bool (by simp [Sy.isA, h1, h2]), rfl⟩

set_option maxRecDepth 100000 in
set_option maxHeartbeats 1000000 in
theorem isName_m (w : World) (b : Nat) (s : ByteArray) (z : Sy.Env) (S : Sy.RS) (e d : Nat) (h : Rd w b s z S e d) :
    Calls Tryz.prog 78 #[.pointer (some ⟨b, 0, none⟩)] w fun en w' => en = .returned (.bool (Sy.isNameA S)) ∧ w' = w := by
  obtain ⟨p, hb, _⟩ := h.cells
  have H := hid h
  have c1 := (hb 1 _ rfl).1
  clear h hb
  cases ho : Sy.okA S with
  | false =>
    go_enter Tryz.func78, Tryz.ntmps78
    go_wp2_with (go_at_call 17; refine (ok_any _ b s z S e d H.out).mono ?_; rintro en w' ⟨rfl, rfl⟩)
    go_ret
    exact ⟨ret_bool (by simp [Sy.isNameA, ho]), rfl⟩
  | true =>
    go_enter Tryz.func78, Tryz.ntmps78
    go_wp2_with (go_at_call 17; refine (ok_any _ b s z S e d H.out).mono ?_; rintro en w' ⟨rfl, rfl⟩)
    all_goals
      go_ret
      refine ⟨ret_bool ?_, rfl⟩
      simp only [Sy.isNameA, ho, Bool.true_and]
      rw [Bool.eq_iff_iff]
      simp
      omega

/-- The reader's state without the cells that a fault lies in. -/
theorem Rd.fault {w w' : World} {b e d : Nat} {s : ByteArray} {z : Sy.Env} {S : Sy.RS} (h : Rd w b s z S e d) {f1 f2 : Nat} (hf : f1 ≠ 0)
    (hw : w' = (w.setCell ⟨b, 6, none⟩ (.int .i64 f1)).setCell ⟨b, 7, none⟩ (.int .i64 f2)) : Rd w' b s z ⟨S.t, S.rest, (f1, f2)⟩ e d := by
  obtain ⟨h1, h2, p, hb, hp, hS⟩ := h
  refine ⟨h1, h2, p, ?_, hp, fun ho => absurd ho (by simp [Sy.okA, hf])⟩
  subst hw
  exact (hb.set 6 (by simp [rdVals]) _).set 7 (by simp [rdVals]) _
theorem Rd.same {w w' : World} {b e d : Nat} {s : ByteArray} {z : Sy.Env} {S : Sy.RS} (h : Rd w b s z S e d) (hw : w'.heap = w.heap) : Rd w' b s z S e d := by
  obtain ⟨h1, h2, p, hb, hp, hS⟩ := h
  exact ⟨h1, h2, p, hb.of_heap (by rw [hw]), hp, hS⟩
theorem drewN_heap (w : World) (n : Nat) : (w.drewN n).heap = w.heap := by simp
theorem Kp.drewN {b : Nat} {w1 w2 : World} (h : Kp b w1 w2) (n : Nat) : Kp b w1 (w2.drewN n) :=
  h.trans ⟨by simp [World.drewN], by simp [World.drewN], by simp [World.drewN], by simp, fun _ _ _ => by rw [drewN_heap]⟩
theorem Rd.drew {w : World} {b e d : Nat} {s : ByteArray} {z : Sy.Env} {S : Sy.RS} (h : Rd w b s z S e d) : Rd w.drew b s z S e d := by
  obtain ⟨h1, h2, p, hb, hp, hS⟩ := h
  exact ⟨h1, h2, p, hb.of_heap rfl, hp, hS⟩
theorem Rd.alloc {w : World} {b e d : Nat} {s : ByteArray} {z : Sy.Env} {S : Sy.RS} (h : Rd w b s z S e d) (o : Obj) : Rd (w.alloc o) b s z S e d := by
  have hl := h.lt
  obtain ⟨h1, h2, p, hb, hp, hS⟩ := h
  exact ⟨h1, h2, p, hb.of_heap (heap_alloc_old w o hl), hp, hS⟩
theorem Rd.below {w w' : World} {b e d : Nat} {s : ByteArray} {z : Sy.Env} {S : Sy.RS} (h : Rd w b s z S e d) {B : Nat} (hw : Below B w w') (hB : b < B) : Rd w' b s z S e d := by
  obtain ⟨h1, h2, p, hb, hp, hS⟩ := h
  exact ⟨h1, h2, p, hb.of_heap (hw.block b hB), hp, hS⟩
theorem Rd.other {w : World} {b e d : Nat} {s : ByteArray} {z : Sy.Env} {S : Sy.RS} (h : Rd w b s z S e d) {c : Nat} (hc : b ≠ c) (k : Nat) (v : Value) : Rd (w.setCell ⟨c, k, none⟩ v) b s z S e d := by
  obtain ⟨h1, h2, p, hb, hp, hS⟩ := h
  exact ⟨h1, h2, p, hb.of_heap (Below.heap_setCell _ _ _ _ hc), hp, hS⟩

set_option maxRecDepth 100000 in
set_option maxHeartbeats 1000000 in
theorem no_m (w : World) (b : Nat) (s : ByteArray) (z : Sy.Env) (S : Sy.RS) (e d : Nat) (h : Rd w b s z S e d) :
    Calls Tryz.prog 18 #[.pointer (some ⟨b, 0, none⟩)] w fun en w' => en = .returned (.tuple #[]) ∧ Rd w' b s z (Sy.noA S) e d ∧ Kp b w w' := by
  obtain ⟨p, hb, hp, hS⟩ := h.cells
  have H := hid h
  have c2 := (hb 2 _ rfl).1
  have c6 := hb 6 _ rfl
  have c7 := hb 7 _ rfl
  clear h hb hS
  cases ho : Sy.okA S with
  | false =>
    have HN := hid (Sy.no_bad ho)
    go_enter Tryz.func18, Tryz.ntmps18
    go_wp2_with (go_at_call 17; refine (ok_any _ b s z S e d H.out).mono ?_; rintro en w' ⟨rfl, rfl⟩)
    first
      | go_end0
      | refine bodyPost_ret (results_none rfl _ _ _) rfl ?_
    exact ⟨rfl, by rw [HN.out]; exact H.out, Kp.refl _ _⟩
  | true =>
    have HN : Hid (Sy.noA S = ⟨S.t, S.rest, (4, S.t.pos)⟩) := by simp [Hid, Sy.noA, ho]
    go_enter Tryz.func18, Tryz.ntmps18
    go_wp2_with (go_at_call 17; refine (ok_any _ b s z S e d H.out).mono ?_; rintro en w' ⟨rfl, rfl⟩)
    go_end0
    exact ⟨rfl, by rw [HN.out]; exact H.out.fault (by decide) rfl, ((Kp.refl _ _).set _ _).set _ _⟩

set_option maxRecDepth 100000 in
set_option maxHeartbeats 1000000 in
theorem has_m (w : World) (b : Nat) (s : ByteArray) (z : Sy.Env) (S : Sy.RS) (e d : Nat) (x : List UInt8) (h : Rd w b s z S e d) :
    Calls Tryz.prog 43 #[.pointer (some ⟨b, 0, none⟩), .string ⟨x.toArray⟩] w fun en w' => en = .returned (.bool (Sy.isA x S)) ∧ Rd w' b s z (Sy.hasA z x S) e d ∧ Kp b w w' := by
  have H := hid h
  clear h
  cases ho : Sy.isA x S with
  | false =>
    have HN : Hid (Sy.hasA z x S = S) := by simp [Hid, Sy.hasA, ho]
    go_enter Tryz.func43, Tryz.ntmps43
    go_wp2_with (go_at_call 38; refine (is_m _ b s z S e d x H.out).mono ?_; rintro en w' ⟨rfl, rfl⟩)
    go_ret
    exact ⟨rfl, by rw [HN.out]; exact H.out, Kp.refl _ _⟩
  | true =>
    have HN : Hid (Sy.hasA z x S = Sy.nextA z S) := by simp [Hid, Sy.hasA, ho]
    go_enter Tryz.func43, Tryz.ntmps43
    go_wp2_with (first
      | (go_at_call 38; refine (is_m _ b s z S e d x H.out).mono ?_; rintro en w' ⟨rfl, rfl⟩)
      | (go_at_call 15; refine (next_m _ b s z S e d H.out).mono ?_; rintro en w2 ⟨rfl, hr, hk⟩))
    go_ret
    exact ⟨rfl, by rw [HN.out]; exact hr, hk⟩

theorem has_yes (w : World) (b : Nat) (s : ByteArray) (z : Sy.Env) (S : Sy.RS) (e d : Nat) (x : List UInt8) (h : Rd w b s z S e d) (hi : Sy.isA x S = true) :
    Calls Tryz.prog 43 #[.pointer (some ⟨b, 0, none⟩), .string ⟨x.toArray⟩] w fun en w' => en = .returned (.bool true) ∧ Hid (Rd w' b s z (Sy.nextA z S) e d) ∧ Hid (Kp b w w') := by
  refine (has_m w b s z S e d x h).mono ?_
  rintro en w' ⟨h1, h2, h3⟩
  rw [show Sy.hasA z x S = Sy.nextA z S by simp [Sy.hasA, hi]] at h2
  exact ⟨by rw [h1, hi], h2, h3⟩

set_option maxRecDepth 100000 in
set_option maxHeartbeats 1000000 in
theorem has_no (w : World) (b : Nat) (s : ByteArray) (z : Sy.Env) (S : Sy.RS) (e d : Nat) (x : List UInt8) (h : Rd w b s z S e d) (hi : Sy.isA x S = false) :
    Calls Tryz.prog 43 #[.pointer (some ⟨b, 0, none⟩), .string ⟨x.toArray⟩] w fun en w' => en = .returned (.bool false) ∧ w = w' := by
  have H := hid h
  clear h
  go_enter Tryz.func43, Tryz.ntmps43
  go_wp2_with (go_at_call 38; refine (is_m _ b s z S e d x H.out).mono ?_; rintro en w' ⟨rfl, rfl⟩)
  go_ret
  exact ⟨rfl, rfl⟩

set_option maxRecDepth 100000 in
set_option maxHeartbeats 1000000 in
theorem must_m (w : World) (b : Nat) (s : ByteArray) (z : Sy.Env) (S : Sy.RS) (e d : Nat) (x : List UInt8) (h : Rd w b s z S e d) :
    Calls Tryz.prog 40 #[.pointer (some ⟨b, 0, none⟩), .string ⟨x.toArray⟩] w fun en w' => en = .returned (.tuple #[]) ∧ Rd w' b s z (Sy.mustA z x S) e d ∧ Kp b w w' := by
  have H := hid h
  clear h
  cases ho : Sy.isA x S with
  | false =>
    have HN : Hid (Sy.mustA z x S = Sy.noA (Sy.hasA z x S)) := by simp [Hid, Sy.mustA, Sy.hasA, ho]
    go_enter Tryz.func40, Tryz.ntmps40
    go_wp2_with (first
      | (go_at_call 43; refine (has_m _ b s z S e d x H.out).mono ?_; rintro en w1 ⟨rfl, hr, hk⟩; have HR := hid hr; have HK := hid hk; clear hr hk)
      | (go_at_call 18; refine (no_m _ b s z _ e d HR.out).mono ?_; rintro en w2 ⟨rfl, hr2, hk2⟩))
    first
      | go_end0
      | refine bodyPost_ret (results_none rfl _ _ _) rfl ?_
    exact ⟨rfl, by rw [HN.out]; exact hr2, HK.out.trans hk2⟩
  | true =>
    have HN : Hid (Sy.mustA z x S = Sy.hasA z x S) := by simp [Hid, Sy.mustA, Sy.hasA, ho]
    go_enter Tryz.func40, Tryz.ntmps40
    go_wp2_with (go_at_call 43; refine (has_m _ b s z S e d x H.out).mono ?_; rintro en w1 ⟨rfl, hr, hk⟩; have HR := hid hr; have HK := hid hk; clear hr hk)
    first
      | go_end0
      | refine bodyPost_ret (results_none rfl _ _ _) rfl ?_
    exact ⟨rfl, by rw [HN.out]; exact HR.out, HK.out⟩

theorem node_m (w : World) (k p : Int) (a : Option Addr) (n c : Nat) :
    Calls Tryz.prog 37 #[.int .i64 k, .int .i64 p, .slice a n c] w fun en w' => en = .returned (.agg #[.int .i64 k, .int .i64 p, .string ⟨#[]⟩, .int .i64 0, .slice a n c]) ∧ Hid (Below w.heap.size w w') := by
  go_enter Tryz.func37, Tryz.ntmps37
  go_wp2
  refine bodyPost_ret (v := .agg #[.int .i64 k, .int .i64 p, .string ⟨#[]⟩, .int .i64 0, .slice a n c]) (by simp [results, Tryz.results37, go_sem]) rfl ⟨rfl, hid ?_⟩
  exact (Below.refl _ _).alloc (Nat.le_refl _) _
theorem named_m (w : World) (k p : Int) (x : ByteArray) (a : Option Addr) (n c : Nat) :
    Calls Tryz.prog 42 #[.int .i64 k, .int .i64 p, .string x, .slice a n c] w fun en w' => en = .returned (.agg #[.int .i64 k, .int .i64 p, .string x, .int .i64 0, .slice a n c]) ∧ Hid (Below w.heap.size w w') := by
  go_enter Tryz.func42, Tryz.ntmps42
  go_wp2
  refine bodyPost_ret (v := .agg #[.int .i64 k, .int .i64 p, .string x, .int .i64 0, .slice a n c]) (by simp [results, Tryz.results42, go_sem]) rfl ⟨rfl, hid ?_⟩
  exact (Below.refl _ _).alloc (Nat.le_refl _) _

theorem Blk.kp {w w' : World} {b c : Nat} {v : Value} {vs : List Value} (h : Blk w c (v :: vs)) (hk : Kp b w w') (hn : c ≠ b) : Blk w' c (v :: vs) := h.of_heap (hk.block c h.lt (fun e => hn (Option.some.inj e)))

set_option maxRecDepth 100000 in
set_option maxHeartbeats 1000000 in
theorem name_m (w : World) (b : Nat) (s : ByteArray) (z : Sy.Env) (S : Sy.RS) (e d : Nat) (h : Rd w b s z S e d) :
    Calls Tryz.prog 39 #[.pointer (some ⟨b, 0, none⟩)] w fun en w' => en = .returned (.tuple #[.string ⟨(Sy.nameA z S).1.1.toArray⟩, .int .i64 (Sy.nameA z S).1.2]) ∧ Rd w' b s z (Sy.nameA z S).2 e d ∧ Kp b w w' := by
  obtain ⟨p, hb, hp, hS⟩ := h.cells
  have H := hid h
  have hlt := h.lt
  have c1 := (hb 1 _ rfl).1
  have c2 := (hb 2 _ rfl).1
  have c3 := (hb 3 _ rfl).1
  have c4 := (hb 4 _ rfl).1
  clear h hb hS
  cases ho : Sy.isNameA S with
  | false =>
    have HN : Hid (Sy.nameA z S = (([], 0), Sy.noA S)) := by simp [Hid, Sy.nameA, ho]
    rcases (show Sy.okA S = false ∨ (Sy.okA S = true ∧ ((S.t.kind : Int) != 2) = true) from by
      cases hk : Sy.okA S with
      | false => exact .inl rfl
      | true =>
        refine .inr ⟨rfl, ?_⟩
        have : S.t.kind ≠ 2 := by simpa [Sy.isNameA, hk] using ho
        simp; omega) with hk | ⟨hk, hk2⟩
    all_goals
      clear ho
      go_enter Tryz.func39, Tryz.ntmps39
      go_wp2_with (first
        | (go_at_call 17; refine (ok_any _ b s z S e d (H.out.alloc _)).mono ?_; rintro en w' ⟨rfl, rfl⟩)
        | (go_at_call 18; refine (no_m _ b s z S e d (H.out.alloc _)).mono ?_; rintro en w2 ⟨rfl, hr, hkp⟩; have HR := hid hr; have HK := hid hkp; clear hr hkp))
      go_ret2
      exact ⟨by rw [HN.out]; rfl, by rw [HN.out]; exact HR.out, (World.grownBy_alloc _ _ _).trans HK.out⟩
  | true =>
    have HN : Hid (Sy.nameA z S = ((S.t.text, S.t.pos), Sy.nextA z S)) := by simp [Hid, Sy.nameA, ho]
    have hk : Sy.okA S = true := by simp [Sy.isNameA] at ho; exact ho.1
    have hk2 : ((S.t.kind : Int) != 2) = false := by simp [Sy.isNameA] at ho; simp [ho.2]
    have hne : w.heap.size ≠ b := by omega
    clear ho
    go_enter Tryz.func39, Tryz.ntmps39
    go_wp2_with (first
        | (go_at_call 17; refine (ok_any _ b s z S e d (H.out.alloc _)).mono ?_; rintro en w' ⟨rfl, rfl⟩)
        | (go_at_call 15; refine (next_m _ b s z S e d (H.out.alloc _)).mono ?_; rintro en w2 ⟨rfl, hr, hkp⟩; have HR := hid hr; have HK := hid hkp; have HBK := hid ((Blk.new _ [_, _, _, _] _).kp hkp hne); obtain ⟨q0, q1, q2, q3, _⟩ := blk4 HBK.out; clear hr hkp))
    go_quiet (fail)
    go_wp2
    go_ret2
    exact ⟨by rw [HN.out]; rfl, by rw [HN.out]; exact HR.out.same (by simp), (((Kp.refl b w).alloc _).trans HK.out).drewN _⟩
end Go.Proofs.YtedppdcknkcbjaaGreatDoor

namespace Go.Proofs.YtedppdcknkcbjaaGreatDoor
open Go.RowKit

/-- A node's five cells in a block. -/
def NodeAt (w : World) (g o : Nat) (T : Sy.Tr) (v : Value) : Prop :=
  w.cell? ⟨g, o, none⟩ = some (.int .i64 T.kind) ∧ w.cell? ⟨g, o + 1, none⟩ = some (.int .i64 T.pos) ∧ w.cell? ⟨g, o + 2, none⟩ = some (.string ⟨T.name.toArray⟩) ∧
  w.cell? ⟨g, o + 3, none⟩ = some (.int .i64 T.num) ∧ w.cell? ⟨g, o + 4, none⟩ = some v

/-- A list of kids, in blocks that F tells of. -/
inductive Kids (w : World) (F : Nat → Prop) : Value → List Sy.Tr → Prop
  | nil : Kids w F (.slice none 0 0) []
  | row (g c : Nat) (kids : List Sy.Tr) (ks : Nat → Value) (hg : F g) (h0 : kids ≠ []) (hc : kids.length ≤ c)
      (hcell : ∀ i (h : i < kids.length), NodeAt w g (i * 5) kids[i] (ks i))
      (hk : ∀ i (h : i < kids.length), Kids w F (ks i) kids[i].kids) : Kids w F (.slice (some ⟨g, 0, none⟩) kids.length c) kids

theorem NodeAt.lt {w : World} {g o : Nat} {T : Sy.Tr} {v : Value} (h : NodeAt w g o T v) : g < w.heap.size := World.block_lt_of_cell? w ⟨g, o, none⟩ h.1
theorem NodeAt.of_heap {w w' : World} {g o : Nat} {T : Sy.Tr} {v : Value} (h : NodeAt w g o T v) (hh : w'.heap[g]? = w.heap[g]?) : NodeAt w' g o T v := by
  obtain ⟨h0, h1, h2, h3, h4⟩ := h
  exact ⟨(World.cell?_of_block (a := ⟨g, _, none⟩) hh).trans h0, (World.cell?_of_block (a := ⟨g, _, none⟩) hh).trans h1, (World.cell?_of_block (a := ⟨g, _, none⟩) hh).trans h2,
    (World.cell?_of_block (a := ⟨g, _, none⟩) hh).trans h3, (World.cell?_of_block (a := ⟨g, _, none⟩) hh).trans h4⟩

theorem Kids.carry {w w' : World} {F F' : Nat → Prop} {v : Value} {l : List Sy.Tr} (h : Kids w F v l) (hw : ∀ g, F g → g < w.heap.size → w'.heap[g]? = w.heap[g]?) (hF : ∀ g, F g → g < w.heap.size → F' g) : Kids w' F' v l := by
  induction h with
  | nil => exact .nil
  | row g c kids ks hg h0 hc hcell hk ih =>
    have hlt : g < w.heap.size := (hcell 0 (List.length_pos_iff.2 h0)).lt
    exact .row g c kids ks (hF g hg hlt) h0 hc (fun i hi => (hcell i hi).of_heap (hw g hg hlt)) ih

theorem Kids.kp {w w' : World} {b lo hi : Nat} {v : Value} {l : List Sy.Tr} (h : Kids w (fun g => lo ≤ g) v l) (hk : Kp b w w') (hb : b < lo) (hl : hi ≤ lo) : Kids w' (fun g => hi ≤ g) v l :=
  h.carry (fun g hg hlt => hk.block g hlt (fun e => by have := Option.some.inj e; omega)) (fun g hg _ => Nat.le_trans hl hg)
theorem Kids.past {w w' : World} {lo hi : Nat} {v : Value} {l : List Sy.Tr} (h : Kids w (fun g => lo ≤ g) v l) (hk : Below w.heap.size w w') (hl : hi ≤ lo) : Kids w' (fun g => hi ≤ g) v l :=
  h.carry (fun g _ hlt => hk.block g hlt) (fun _ hg _ => Nat.le_trans hl hg)
theorem Kids.slice {w : World} {F : Nat → Prop} {v : Value} {l : List Sy.Tr} (h : Kids w F v l) : ∃ a c, v = .slice a l.length c := by
  cases h with
  | nil => exact ⟨_, _, rfl⟩
  | row g c kids ks => exact ⟨_, _, rfl⟩

def nodeCells (T : Sy.Tr) (v : Value) : List Value := [.int .i64 T.kind, .int .i64 T.pos, .string ⟨T.name.toArray⟩, .int .i64 T.num, v]
def rowCells (l : List (Sy.Tr × Value)) : List Value := l.flatMap fun p => nodeCells p.1 p.2

theorem rowCells_get : ∀ (l : List (Sy.Tr × Value)) (i j : Nat) (h : i < l.length), j < 5 → (rowCells l)[i * 5 + j]? = (nodeCells l[i].1 l[i].2)[j]? := by
  intro l
  induction l with
  | nil => intro i j h; simp at h
  | cons t l ih =>
    intro i j h hj
    have e : rowCells (t :: l) = nodeCells t.1 t.2 ++ rowCells l := by simp [rowCells]
    have hl : (nodeCells t.1 t.2).length = 5 := rfl
    rw [e]
    cases i with
    | zero =>
      rw [Nat.zero_mul, Nat.zero_add, List.getElem?_append_left (by omega)]
      rfl
    | succ i =>
      rw [List.getElem?_append_right (by omega), hl, show (i + 1) * 5 + j - 5 = i * 5 + j by omega]
      exact ih i j (by simpa using h) hj
theorem rowCells_len (l : List (Sy.Tr × Value)) : (rowCells l).length = l.length * 5 := by
  induction l with
  | nil => rfl
  | cons t l ih =>
    have e : rowCells (t :: l) = nodeCells t.1 t.2 ++ rowCells l := by simp [rowCells]
    have hl : (nodeCells t.1 t.2).length = 5 := rfl
    rw [e, List.length_append, ih, hl, List.length_cons]
    omega

/-- A block of nodes is a list of kids. -/
theorem kids_lit {w : World} {F : Nat → Prop} {g c : Nat} (l : List (Sy.Tr × Value)) (hF : F g) (h0 : l ≠ []) (hc : l.length ≤ c) (hcell : ∀ j v, (rowCells l)[j]? = some v → w.cell? ⟨g, j, none⟩ = some v)
    (hk : ∀ p ∈ l, Kids w F p.2 p.1.kids) : Kids w F (.slice (some ⟨g, 0, none⟩) l.length c) (l.map (·.1)) := by
  have hl : (l.map (·.1)).length = l.length := by simp
  have := Kids.row (w := w) (F := F) g c (l.map (·.1)) (fun i => ((l[i]?).map (·.2)).getD .nilIface) hF (by simpa using h0) (by simpa using hc) ?_ ?_
  · rw [hl] at this; exact this
  · intro i hi
    have hi' : i < l.length := by simpa using hi
    have hc : ∀ j, j < 5 → w.cell? ⟨g, i * 5 + j, none⟩ = (nodeCells l[i].1 l[i].2)[j]? := fun j hj => by
      have h1 := rowCells_get l i j hi' hj
      have h2 : j < (nodeCells l[i].1 l[i].2).length := hj
      rw [List.getElem?_eq_getElem h2] at h1 ⊢
      exact hcell _ _ h1
    simp only [List.getElem_map, List.getElem?_eq_getElem hi', Option.map_some, Option.getD_some]
    exact ⟨hc 0 (by omega), hc 1 (by omega), hc 2 (by omega), hc 3 (by omega), hc 4 (by omega)⟩
  · intro i hi
    have hi' : i < l.length := by simpa using hi
    simp only [List.getElem_map, List.getElem?_eq_getElem hi', Option.map_some, Option.getD_some]
    exact hk _ (List.getElem_mem hi')

/-- What a call that reads a tree answers. -/
def NRes (w : World) (b : Nat) (s : ByteArray) (z : Sy.Env) (x : Sy.Tr × Sy.RS) (e d : Nat) (en : Ending) (w' : World) : Prop :=
  ∃ a l c, en = .returned (.agg #[.int .i64 x.1.kind, .int .i64 x.1.pos, .string ⟨x.1.name.toArray⟩, .int .i64 x.1.num, .slice a l c]) ∧
    Hid (Kids w' (fun g => w.heap.size ≤ g) (.slice a l c) x.1.kids) ∧ Hid (Rd w' b s z x.2 e d) ∧ Hid (Kp b w w')

def TypOK (N k : Nat) : Prop := ∀ (w : World) (b : Nat) (s : ByteArray) (z : Sy.Env) (S : Sy.RS) (e : Nat), Rd w b s z S e (200 - k) → Sy.mu S < N →
  Calls Tryz.prog 41 #[.pointer (some ⟨b, 0, none⟩)] w fun en w' => NRes w b s z (Sy.typA z N k S) e (200 - k) en w'

theorem blk5 {w : World} {b : Nat} {a0 a1 a2 a3 a4 : Value} (h : Blk w b [a0, a1, a2, a3, a4]) :
    (w.cell? ⟨b, 0, none⟩ = some a0 ∧ w.cell? ⟨b, 1, none⟩ = some a1 ∧ w.cell? ⟨b, 2, none⟩ = some a2 ∧ w.cell? ⟨b, 3, none⟩ = some a3 ∧ w.cell? ⟨b, 4, none⟩ = some a4) ∧
    (w.frozen? ⟨b, 0, none⟩ = false ∧ w.frozen? ⟨b, 1, none⟩ = false ∧ w.frozen? ⟨b, 2, none⟩ = false ∧ w.frozen? ⟨b, 3, none⟩ = false ∧ w.frozen? ⟨b, 4, none⟩ = false) :=
  ⟨⟨(h 0 _ rfl).1, (h 1 _ rfl).1, (h 2 _ rfl).1, (h 3 _ rfl).1, (h 4 _ rfl).1⟩, (h 0 _ rfl).2, (h 1 _ rfl).2, (h 2 _ rfl).2, (h 3 _ rfl).2, (h 4 _ rfl).2⟩

/-- A tree in a local variable's block A, its kids in blocks from lo on; a second block R of five cells (the result's); the reader. -/
structure Loc (w : World) (b A R lo : Nat) (s : ByteArray) (z : Sy.Env) (x : Sy.Tr × Sy.RS) (e d : Nat) (W : World) : Prop where
  here : ∃ a l c, Blk W A [.int .i64 x.1.kind, .int .i64 x.1.pos, .string ⟨x.1.name.toArray⟩, .int .i64 x.1.num, .slice a l c] ∧ Kids W (fun g => lo ≤ g) (.slice a l c) x.1.kids
  res : ∃ r0 r1 r2 r3 r4, Blk W R [r0, r1, r2, r3, r4]
  rd : Rd W b s z x.2 e d
  kp : Kp b w W

theorem Blk.other {w : World} {b c : Nat} {vs : List Value} (h : Blk w b vs) (hc : b ≠ c) (k : Nat) (v : Value) : Blk (w.setCell ⟨c, k, none⟩ v) b vs := h.of_heap (Below.heap_setCell _ _ _ _ hc)
theorem Blk.store {w : World} {A : Nat} {o0 o1 o2 o3 o4 : Value} (h : Blk w A [o0, o1, o2, o3, o4]) (v0 v1 v2 v3 v4 : Value) :
    Blk (((((w.setCell ⟨A, 0, none⟩ v0).setCell ⟨A, 1, none⟩ v1).setCell ⟨A, 2, none⟩ v2).setCell ⟨A, 3, none⟩ v3).setCell ⟨A, 4, none⟩ v4) A [v0, v1, v2, v3, v4] :=
  ((((h.set 0 (by simp) v0).set 1 (by simp) v1).set 2 (by simp) v2).set 3 (by simp) v3).set 4 (by simp) v4
def sto5 (w : World) (A : Nat) (v0 v1 v2 v3 v4 : Value) : World := ((((w.setCell ⟨A, 0, none⟩ v0).setCell ⟨A, 1, none⟩ v1).setCell ⟨A, 2, none⟩ v2).setCell ⟨A, 3, none⟩ v3).setCell ⟨A, 4, none⟩ v4
theorem sto5_heap (w : World) (A k : Nat) (v0 v1 v2 v3 v4 : Value) (h : k ≠ A) : (sto5 w A v0 v1 v2 v3 v4).heap[k]? = w.heap[k]? := by
  unfold sto5
  rw [Below.heap_setCell _ _ _ _ h, Below.heap_setCell _ _ _ _ h, Below.heap_setCell _ _ _ _ h, Below.heap_setCell _ _ _ _ h, Below.heap_setCell _ _ _ _ h]
theorem sto5_kp {w w2 : World} {b A : Nat} (h : Kp b w w2) (hA : w.heap.size ≤ A) (v0 v1 v2 v3 v4 : Value) : Kp b w (sto5 w2 A v0 v1 v2 v3 v4) :=
  ((((h.other hA _ _).other hA _ _).other hA _ _).other hA _ _).other hA _ _
theorem Rd.of_heap {w w' : World} {b e d : Nat} {s : ByteArray} {z : Sy.Env} {S : Sy.RS} (h : Rd w b s z S e d) (hw : w'.heap[b]? = w.heap[b]?) : Rd w' b s z S e d := by
  obtain ⟨h1, h2, p, hb, hp, hS⟩ := h
  exact ⟨h1, h2, p, hb.of_heap hw, hp, hS⟩

theorem loc_store {w w2 : World} {b A R lo e d : Nat} {s : ByteArray} {z : Sy.Env} {S : Sy.RS} {o0 o1 o2 o3 o4 r0 r1 r2 r3 r4 : Value} (hA : Blk w2 A [o0, o1, o2, o3, o4]) (hR : Blk w2 R [r0, r1, r2, r3, r4])
    (h1 : R ≠ A) (h2 : b ≠ A) (h3 : A < lo) (h4 : w.heap.size ≤ A) (hr : Rd w2 b s z S e d) (T : Sy.Tr) {a : Option Addr} {l c : Nat} (hk : Kids w2 (fun g => lo ≤ g) (.slice a l c) T.kids) (hkp : Kp b w w2) :
    Loc w b A R lo s z (T, S) e d (sto5 w2 A (.int .i64 T.kind) (.int .i64 T.pos) (.string ⟨T.name.toArray⟩) (.int .i64 T.num) (.slice a l c)) := by
  refine ⟨⟨a, l, c, hA.store _ _ _ _ _, ?_⟩, ⟨r0, r1, r2, r3, r4, hR.of_heap (sto5_heap _ _ _ _ _ _ _ _ h1)⟩, hr.of_heap (sto5_heap _ _ _ _ _ _ _ _ h2), sto5_kp hkp h4 _ _ _ _ _⟩
  exact hk.carry (fun g hg _ => sto5_heap _ _ _ _ _ _ _ _ (by omega)) (fun g hg _ => hg)
def z5 : Array Value := #[.int .i64 0, .int .i64 0, .string ⟨#[]⟩, .int .i64 0, .slice none 0 0]
/-- Two new blocks of a zero node each: the result's and a local's. -/
structure In2 (w : World) (b : Nat) (s : ByteArray) (z : Sy.Env) (S : Sy.RS) (e d : Nat) (W : World) : Prop where
  one : Blk W w.heap.size [.int .i64 0, .int .i64 0, .string ⟨#[]⟩, .int .i64 0, .slice none 0 0]
  two : Blk W (w.heap.size + 1) [.int .i64 0, .int .i64 0, .string ⟨#[]⟩, .int .i64 0, .slice none 0 0]
  rd : Rd W b s z S e d
  kp : Kp b w W
  size : W.heap.size = w.heap.size + 2
theorem in2 {w : World} {b e d : Nat} {s : ByteArray} {z : Sy.Env} {S : Sy.RS} (h : Rd w b s z S e d) (t1 t2 : TypeId) :
    ∃ W, (w.alloc (.cells #[.int .i64 0, .int .i64 0, .string ⟨#[]⟩, .int .i64 0, .slice none 0 0] t1)).alloc (.cells #[.int .i64 0, .int .i64 0, .string ⟨#[]⟩, .int .i64 0, .slice none 0 0] t2) = W ∧ Hid (In2 w b s z S e d W) := by
  refine ⟨_, rfl, ?_, ?_, (h.alloc _).alloc _, ((Kp.refl b w).alloc _).alloc _, by simp⟩
  · exact (Blk.new w [_, _, _, _, _] _).alloc _
  · have := Blk.new (w.alloc (.cells #[.int .i64 0, .int .i64 0, .string ⟨#[]⟩, .int .i64 0, .slice none 0 0] t1)) [.int .i64 0, .int .i64 0, .string ⟨#[]⟩, .int .i64 0, .slice none 0 0] t2
    rw [show (w.alloc (.cells #[.int .i64 0, .int .i64 0, .string ⟨#[]⟩, .int .i64 0, .slice none 0 0] t1)).heap.size = w.heap.size + 1 by simp] at this
    exact this

theorem loc_put {w w2 : World} {b A R lo e d : Nat} {s : ByteArray} {z : Sy.Env} {S : Sy.RS} {o0 o1 o2 o3 o4 r0 r1 r2 r3 r4 : Value} (hA : Blk w2 A [o0, o1, o2, o3, o4]) (hR : Blk w2 R [r0, r1, r2, r3, r4])
    (h1 : R ≠ A) (h2 : b ≠ A) (h3 : A < lo) (h4 : w.heap.size ≤ A) (hr : Rd w2 b s z S e d) (T : Sy.Tr) {a : Option Addr} {l c : Nat} (hk : Kids w2 (fun g => lo ≤ g) (.slice a l c) T.kids) (hkp : Kp b w w2)
    (kk pp nn : Int) (xx : ByteArray) (e1 : kk = T.kind) (e2 : pp = T.pos) (e3 : xx = ⟨T.name.toArray⟩) (e4 : nn = T.num) :
    ∃ W, ((((w2.setCell ⟨A, 0, none⟩ (.int .i64 kk)).setCell ⟨A, 1, none⟩ (.int .i64 pp)).setCell ⟨A, 2, none⟩ (.string xx)).setCell ⟨A, 3, none⟩ (.int .i64 nn)).setCell ⟨A, 4, none⟩ (.slice a l c) = W ∧ Hid (Loc w b A R lo s z (T, S) e d W) := by
  subst e1 e2 e3 e4
  exact ⟨_, rfl, loc_store hA hR h1 h2 h3 h4 hr T hk hkp⟩

/-- The tree is stored into the result's block and handed back. -/
theorem Loc.fin {w W : World} {b A R lo e d : Nat} {s : ByteArray} {z : Sy.Env} {x : Sy.Tr × Sy.RS} (h : Loc w b A R lo s z x e d W) (hlo : w.heap.size ≤ lo) (hR : R < lo) (hRw : w.heap.size ≤ R) (hb : b ≠ R) {a : Option Addr} {l c : Nat}
    (hk : Kids W (fun g => lo ≤ g) (.slice a l c) x.1.kids) (v0 v1 v2 v3 v4 : Value) :
    NRes w b s z x e d (.returned (.agg #[.int .i64 x.1.kind, .int .i64 x.1.pos, .string ⟨x.1.name.toArray⟩, .int .i64 x.1.num, .slice a l c])) (sto5 W R v0 v1 v2 v3 v4) :=
  ⟨a, l, c, rfl, hk.carry (fun g hg _ => sto5_heap _ _ _ _ _ _ _ _ (by omega)) (fun g hg _ => Nat.le_trans hlo hg), h.rd.of_heap (sto5_heap _ _ _ _ _ _ _ _ hb), sto5_kp h.kp hRw _ _ _ _ _⟩

/-- A list of one tree, in a block that was just laid. -/
theorem kids_one {w1 w2 : World} {lo : Nat} {x : Sy.Tr} {a : Option Addr} {l c : Nat} {ty : TypeId} (hk : Kids w1 (fun g => lo ≤ g) (.slice a l c) x.kids) (hlo : lo ≤ w1.heap.size)
    (hb : Below (w1.alloc (.cells #[.int .i64 x.kind, .int .i64 x.pos, .string ⟨x.name.toArray⟩, .int .i64 x.num, .slice a l c] ty)).heap.size (w1.alloc (.cells #[.int .i64 x.kind, .int .i64 x.pos, .string ⟨x.name.toArray⟩, .int .i64 x.num, .slice a l c] ty)) w2) :
    Kids w2 (fun g => lo ≤ g) (.slice (some ⟨w1.heap.size, 0, none⟩) 1 1) [x] := by
  have hB : Blk w2 w1.heap.size (rowCells [(x, .slice a l c)]) := (Blk.new w1 (rowCells [(x, .slice a l c)]) ty).past hb
  refine kids_lit [(x, .slice a l c)] hlo (by simp) (by simp) (fun j v hj => (hB j v hj).1) ?_
  intro p hp
  simp at hp
  subst hp
  exact (hk.past ((Below.refl _ _).alloc (Nat.le_refl _) _) (Nat.le_refl _)).past hb (Nat.le_refl _)
theorem Loc.step {w W W' : World} {b A R lo e d : Nat} {s : ByteArray} {z : Sy.Env} {x : Sy.Tr × Sy.RS} {S : Sy.RS} (h : Loc w b A R lo s z x e d W) (hr : Rd W' b s z S e d) (hk : Kp b W W') (h1 : A ≠ b) (h2 : R ≠ b) (h3 : b < lo) : Loc w b A R lo s z (x.1, S) e d W' := by
  obtain ⟨⟨a, l, c, hA, hK⟩, ⟨r0, r1, r2, r3, r4, hR⟩, _, hkp⟩ := h
  exact ⟨⟨a, l, c, hA.kp hk h1, hK.kp hk h3 (Nat.le_refl _)⟩, ⟨r0, r1, r2, r3, r4, hR.kp hk h2⟩, hr, hkp.trans hk⟩

theorem Kids.kpF {w w' : World} {F : Nat → Prop} {b : Nat} {v : Value} {l : List Sy.Tr} (h : Kids w F v l) (hk : Kp b w w') (hF : ∀ g, F g → g ≠ b) : Kids w' F v l :=
  h.carry (fun g hg hlt => hk.block g hlt (fun e => hF g hg (Option.some.inj e))) (fun _ hg _ => hg)
theorem Kids.pastF {w w' : World} {F : Nat → Prop} {v : Value} {l : List Sy.Tr} (h : Kids w F v l) (hk : Below w.heap.size w w') : Kids w' F v l :=
  h.carry (fun g _ hlt => hk.block g hlt) (fun _ hg _ => hg)
theorem Kids.weak {w : World} {F F' : Nat → Prop} {v : Value} {l : List Sy.Tr} (h : Kids w F v l) (hF : ∀ g, F g → g < w.heap.size → F' g) : Kids w F' v l :=
  h.carry (fun _ _ _ => rfl) hF

/-- Where the kids of a tree in the variable A lie: from lo on, and not in A. -/
def Fr (lo A : Nat) : Nat → Prop := fun g => lo ≤ g ∧ g ≠ A
/-- A tree in a variable's block. -/
structure Vr (W : World) (A lo : Nat) (T : Sy.Tr) (a : Option Addr) (l c : Nat) : Prop where
  cells : Blk W A [.int .i64 T.kind, .int .i64 T.pos, .string ⟨T.name.toArray⟩, .int .i64 T.num, .slice a l c]
  kids : Kids W (Fr lo A) (.slice a l c) T.kids
theorem Vr.lt {W : World} {A lo : Nat} {T : Sy.Tr} {a : Option Addr} {l c : Nat} (h : Vr W A lo T a l c) : A < W.heap.size := h.cells.lt
theorem Vr.kp {W W' : World} {A lo b : Nat} {T : Sy.Tr} {a : Option Addr} {l c : Nat} (h : Vr W A lo T a l c) (hk : Kp b W W') (h1 : A ≠ b) (h2 : b < lo) : Vr W' A lo T a l c :=
  ⟨h.cells.kp hk h1, h.kids.kpF hk (fun g hg => by have := hg.1; omega)⟩
theorem Vr.past {W W' : World} {A lo : Nat} {T : Sy.Tr} {a : Option Addr} {l c : Nat} (h : Vr W A lo T a l c) (hk : Below W.heap.size W W') : Vr W' A lo T a l c := ⟨h.cells.past hk, h.kids.pastF hk⟩
theorem Vr.alloc {W : World} {A lo : Nat} {T : Sy.Tr} {a : Option Addr} {l c : Nat} (h : Vr W A lo T a l c) (o : Obj) : Vr (W.alloc o) A lo T a l c := h.past ((Below.refl _ _).alloc (Nat.le_refl _) o)
theorem Vr.same {W W' : World} {A lo : Nat} {T : Sy.Tr} {a : Option Addr} {l c : Nat} (h : Vr W A lo T a l c) (hw : W'.heap = W.heap) : Vr W' A lo T a l c :=
  ⟨h.cells.of_heap (by rw [hw]), h.kids.carry (fun _ _ _ => by rw [hw]) (fun _ hg _ => hg)⟩
theorem Vr.weak {W : World} {A lo lo' : Nat} {T : Sy.Tr} {a : Option Addr} {l c : Nat} (h : Vr W A lo T a l c) (hl : lo' ≤ lo) : Vr W A lo' T a l c := ⟨h.cells, h.kids.weak (fun _ hg _ => ⟨Nat.le_trans hl hg.1, hg.2⟩)⟩
/-- What a call has answered, laid into a new variable. -/
theorem vr_new {w1 : World} {lo : Nat} {T : Sy.Tr} {a : Option Addr} {l c : Nat} (h : Kids w1 (fun g => lo ≤ g) (.slice a l c) T.kids) (ty : TypeId) :
    Vr (w1.alloc (.cells #[.int .i64 T.kind, .int .i64 T.pos, .string ⟨T.name.toArray⟩, .int .i64 T.num, .slice a l c] ty)) w1.heap.size lo T a l c :=
  ⟨Blk.new w1 [_, _, _, _, _] ty, (h.weak (fun g hg hlt => ⟨hg, by omega⟩)).pastF ((Below.refl _ _).alloc (Nat.le_refl _) _)⟩

theorem kids_new {w1 w2 : World} {F : Nat → Prop} {ty : TypeId} (l : List (Sy.Tr × Value)) (h0 : l ≠ []) (hF : F w1.heap.size) (hk : ∀ p ∈ l, Kids w1 F p.2 p.1.kids) (cs : Array Value) (hcs : cs = (rowCells l).toArray) (n : Nat) (hn : n = l.length)
    (hb : Below (w1.alloc (.cells cs ty)).heap.size (w1.alloc (.cells cs ty)) w2) : Kids w2 F (.slice (some ⟨w1.heap.size, 0, none⟩) n n) (l.map (·.1)) := by
  subst hcs hn
  have hne : ∃ v vs, rowCells l = v :: vs := by
    cases l with
    | nil => exact absurd rfl h0
    | cons p l => exact ⟨_, _, rfl⟩
  obtain ⟨v, vs, hv⟩ := hne
  have hB : Blk w2 w1.heap.size (rowCells l) := by
    have := Blk.new w1 (rowCells l) ty
    rw [hv] at this hb ⊢
    exact this.past hb
  refine kids_lit l hF h0 (Nat.le_refl _) (fun j v hj => (hB j v hj).1) ?_
  intro p hp
  exact ((hk p hp).pastF ((Below.refl _ _).alloc (Nat.le_refl _) _)).pastF hb

theorem Kids.free {W : World} {A lo hi : Nat} {v : Value} {l : List Sy.Tr} (h : Kids W (Fr lo A) v l) (hl : hi ≤ lo) : Kids W (fun g => hi ≤ g) v l := h.weak (fun _ hg _ => Nat.le_trans hl hg.1)

/-- The answer is stored into the result's block and handed back. -/
theorem nres_fin {w W : World} {b R lo e d : Nat} {s : ByteArray} {z : Sy.Env} {x : Sy.Tr × Sy.RS} (T : Sy.Tr) (S : Sy.RS) {a : Option Addr} {l c : Nat} (hk : Kids W (fun g => lo ≤ g) (.slice a l c) T.kids)
    (hr : Rd W b s z S e d) (hkp : Kp b w W) (hx : x = (T, S)) (hR : R < lo) (hRw : w.heap.size ≤ R) (hb : b ≠ R) (kk pp nn : Int) (xx : ByteArray) (e1 : kk = T.kind) (e2 : pp = T.pos) (e3 : xx = ⟨T.name.toArray⟩) (e4 : nn = T.num) (v0 v1 v2 v3 v4 : Value) :
    NRes w b s z x e d (.returned (.agg #[.int .i64 kk, .int .i64 pp, .string xx, .int .i64 nn, .slice a l c])) (sto5 W R v0 v1 v2 v3 v4) := by
  subst e1 e2 e3 e4 hx
  exact ⟨a, l, c, rfl, hk.carry (fun g hg _ => sto5_heap _ _ _ _ _ _ _ _ (by omega)) (fun g hg _ => by omega), hr.of_heap (sto5_heap _ _ _ _ _ _ _ _ hb), sto5_kp hkp hRw _ _ _ _ _⟩

/-- One new block of a zero node: the result's. -/
structure In1 (w : World) (b : Nat) (s : ByteArray) (z : Sy.Env) (S : Sy.RS) (e d : Nat) (W : World) : Prop where
  one : Blk W w.heap.size [.int .i64 0, .int .i64 0, .string ⟨#[]⟩, .int .i64 0, .slice none 0 0]
  rd : Rd W b s z S e d
  kp : Kp b w W
  size : W.heap.size = w.heap.size + 1
theorem in1 {w : World} {b e d : Nat} {s : ByteArray} {z : Sy.Env} {S : Sy.RS} (h : Rd w b s z S e d) (t1 : TypeId) :
    ∃ W, w.alloc (.cells #[.int .i64 0, .int .i64 0, .string ⟨#[]⟩, .int .i64 0, .slice none 0 0] t1) = W ∧ Hid (In1 w b s z S e d W) :=
  ⟨_, rfl, Blk.new w [_, _, _, _, _] _, h.alloc _, (Kp.refl b w).alloc _, by simp⟩

theorem var_new {w0 w1 : World} {b e d : Nat} {s : ByteArray} {z : Sy.Env} {S : Sy.RS} {T : Sy.Tr} {a : Option Addr} {l c : Nat} (h : Kids w1 (fun g => w0.heap.size ≤ g) (.slice a l c) T.kids) (hr : Rd w1 b s z S e d) (hk : Kp b w0 w1) (ty : TypeId) :
    ∃ W, w1.alloc (.cells #[.int .i64 T.kind, .int .i64 T.pos, .string ⟨T.name.toArray⟩, .int .i64 T.num, .slice a l c] ty) = W ∧ Hid (Vr W w1.heap.size w0.heap.size T a l c) ∧ Hid (Rd W b s z S e d) ∧ Hid (Kp b w0 W) ∧ W.heap.size = w1.heap.size + 1 ∧ w0.heap.size ≤ w1.heap.size :=
  ⟨_, rfl, vr_new h ty, hr.alloc _, hk.alloc _, by simp, hk.size⟩
end Go.Proofs.YtedppdcknkcbjaaGreatDoor
