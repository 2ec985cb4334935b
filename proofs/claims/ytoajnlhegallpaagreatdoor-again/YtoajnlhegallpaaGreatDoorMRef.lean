/-
  What the document's small functions on bytes answer, each for every byte: digit, letter, blank, pass.
  What the document's number answers, for every row of digits; its lists of words and signs; whether a name is a word.
  Signs, in plain words: which of the twenty a list begins with, and that it is the token there.
  What the document's Next answers, for every text of at most 3000 bytes and every place in it.
  The document's reader in memory, and what its small methods do: ok, next, no, is, has, must, name, isName; what Node and named make.
  What the reader's small methods do: no, is, has, must, name, isName; what Node and named make.
  Trees in memory: a list of kids in a block; how it is carried from world to world; what a call that reads a tree answers.
-/
import Derived.Test.YtoajnlhegallpaaGreatDoorMBa
import Derived.WalkSpells
import Derived.BigQuiet
import Derived.WalkSmall
import Derived.Deep.QuietTactic
import Derived.Deep.RegionHeld3
import Derived.Deep.DrawnRows
import Derived.Deep.LoopGhost
set_option linter.unusedVariables false
set_option linter.unusedSimpArgs false
namespace Go.Proofs.YtoajnlhegallpaaGreatDoor
open Go.RowKit


theorem drop_cons (s : ByteArray) (k : Nat) (h : k < s.size) : s.data.toList.drop k = s[k] :: s.data.toList.drop (k + 1) := by
 rw [List.drop_eq_getElem_cons (by simpa using h)]; rfl
theorem drop_end (s : ByteArray) (k : Nat) (h : s.size ≤ k) : s.data.toList.drop k = [] := List.drop_eq_nil_of_le (by simpa using h)

def PassTo (s : ByteArray) (i j : Nat) : Prop :=
 i ≤ j ∧ j ≤ s.size ∧ Lx.toks s.size j (s.data.toList.drop j) = Lx.toks s.size i (s.data.toList.drop i) ∧ ∀ h : j < s.size, Lx.isBl s[j] = false ∧ (s[j]).toNat ≠ 35

theorem pass_blank {s : ByteArray} {i : Nat} (h : i < s.size) (hb : Lx.isBl s[i] = true) : Lx.toks s.size (i + 1) (s.data.toList.drop (i + 1)) = Lx.toks s.size i (s.data.toList.drop i) := by
 rw [drop_cons s i h, Lx.toks_blank _ _ _ _ hb]
theorem pass_hash {s : ByteArray} {i : Nat} (h : i < s.size) (hb : (s[i]).toNat = 35) : Lx.toksRem s.size i (s.data.toList.drop i) = Lx.toks s.size i (s.data.toList.drop i) := by
 rw [drop_cons s i h, Lx.toks_hash _ _ _ _ hb]

open Go.RowKit

theorem head_eq (s : ByteArray) (h : 0 < s.size) : s.data.toList.head? = some s[0] := by
 have := drop_cons s 0 h
 rw [List.drop_zero] at this
 rw [this]; rfl
theorem size_len (s : ByteArray) : s.data.toList.length = s.size := by simp
theorem u8_eq {c : UInt8} {n : Nat} (hn : n < 256) (h : c.toNat = n) : c = UInt8.ofNat n := by
 apply UInt8.toNat_inj.1
 rw [h, UInt8.toNat_ofNat']
 omega
theorem okNum_bad (s : ByteArray) (h : 1 < s.size) (h48 : (s[0]).toNat = 48) : Lx.okNum s.data.toList = false := by
 unfold Lx.okNum
 rw [head_eq s (by omega), size_len, u8_eq (by omega) h48]
 simp [h]
theorem okNum_big (l : List UInt8) (h : 9223372036854775807 < Lx.numVal l) : Lx.okNum l = false := by
 unfold Lx.okNum
 rw [decide_eq_false (by omega : ¬ Lx.numVal l ≤ 9223372036854775807), Bool.and_false]
theorem okNum_good (s : ByteArray) (h0 : 0 < s.size) (h : 1 < s.size → (s[0]).toNat ≠ 48) (hv : Lx.numVal s.data.toList ≤ 9223372036854775807) : Lx.okNum s.data.toList = true := by
 unfold Lx.okNum
 rw [decide_eq_true hv, head_eq s h0, size_len, Bool.and_true]
 by_cases h1 : 1 < s.size
 ·have h2 : (s[0] == 48) = false := by
   rw [beq_eq_false_iff_ne]
   intro e
   apply h h1
   rw [e]; rfl
  simp [h2]
 ·simp [h1]

def signList : List (List UInt8) := [[58, 58], [61, 61], [61, 62], [45, 62], [40], [41], [91], [93], [123], [125], [44], [59], [58], [61], [45], [43], [42], [60], [124], [126]]

theorem toList_data (s : ByteArray) : s.data.toList = s.toList := (ByteArray.toList_eq s).symm


open Go.RowKit

def Begins (l : List UInt8) (q : Nat) : Prop := l.take (signList.getD q []).length = signList.getD q []

theorem signLen_one {l : List UInt8} (hn : ∀ q, q < 4 → ¬ Begins l q) : Lx.signLen l = 1 := by
 have h0 := hn 0 (by omega)
 have h1 := hn 1 (by omega)
 have h2 := hn 2 (by omega)
 have h3 := hn 3 (by omega)
 simp only [Begins, signList, List.getD_cons_zero, List.getD_cons_succ, List.length_cons, List.length_nil] at h0 h1 h2 h3
 unfold Lx.signLen
 rw [if_neg]
 simp only [Lx.twos, List.contains_iff_mem, List.mem_cons, List.not_mem_nil, or_false, not_or]
 exact ⟨h0, h1, h2, h3⟩

theorem sign_lens : ∀ q, q < 20 → (signList.getD q []).length = if q < 4 then 2 else 1 := by decide


open Go.RowKit

theorem bcell {B : Nat} {W w1 : World} (hb : Below B W w1) : (∀ b o, b < B → w1.cell? ⟨b, o, none⟩ = W.cell? ⟨b, o, none⟩) ∧ (∀ b o, b < B → w1.frozen? ⟨b, o, none⟩ = W.frozen? ⟨b, o, none⟩) :=
 ⟨fun b o h => hb.cell (p := ⟨b, o, none⟩) h, fun b o h => hb.frozen (p := ⟨b, o, none⟩) h⟩

theorem takeWhile_take {p : UInt8 → Bool} : ∀ (l : List UInt8) (n : Nat), n ≤ l.length → (∀ i (h : i < l.length), i < n → p l[i] = true) → (∀ h : n < l.length, p l[n] = false) → l.takeWhile p = l.take n := by
 intro l
 induction l with
 | nil => intro n; simp
 | cons c r ih =>
  intro n hn hall hend
  cases n with
  | zero =>
   have := hend (by simp)
   simp at this
   simp [this]
  | succ n =>
   have hc : p c = true := hall 0 (by simp) (by omega)
   simp only [List.takeWhile_cons, hc, if_true, List.take_succ_cons]
   rw [ih n (by simpa using hn) (fun i h hi => by have := hall (i + 1) (by simpa using h) (by omega); simpa using this) (fun h => by have := hend (by simpa using h); simpa using this)]

theorem drop_get (s : ByteArray) (j i : Nat) (h : j + i < s.size) : ∃ h2 : i < (s.data.toList.drop j).length, (s.data.toList.drop j)[i] = s[j + i] := by
 refine ⟨by simp; omega, ?_⟩
 rw [List.getElem_drop]; rfl

theorem run_take {p : UInt8 → Bool} (s : ByteArray) (j k : Nat) (hjk : j ≤ k) (hk : k ≤ s.size) (hall : ∀ q (h : q < s.size), j ≤ q → q < k → p s[q] = true) (hend : ∀ h : k < s.size, p s[k] = false) :
  (s.data.toList.drop j).takeWhile p = (s.data.toList.drop j).take (k - j) := by
 apply takeWhile_take
 ·simp; omega
 ·intro i h hi
  have hsz : j + i < s.size := by omega
  obtain ⟨h2, e⟩ := drop_get s j i hsz
  rw [e]
  exact hall (j + i) hsz (by omega) (by omega)
 ·intro h
  have hsz : k < s.size := by simp at h; omega
  obtain ⟨h2, e⟩ := drop_get s j (k - j) (by omega)
  have e2 : s[j + (k - j)]'(by omega) = s[k] := by congr 1; omega
  rw [e, e2]
  exact hend hsz

def tkVal (t : Lx.Tk) : Value := .agg #[.int .i64 t.kind, .int .i64 t.pos, .string ⟨t.text.toArray⟩, .int .i64 t.num]
def fltVal (k p : Nat) : Value := .agg #[.int .i64 k, .int .i64 p]

theorem isDig_iff (c : UInt8) : Lx.isDig c = true ↔ 48 ≤ c.toNat ∧ c.toNat ≤ 57 := by simp [Lx.isDig]

theorem extract_list (s : ByteArray) (j k : Nat) : (s.extract j k).data.toList = (s.data.toList.drop j).take (k - j) := by simp
theorem extract_size (s : ByteArray) (j k : Nat) (hk : k ≤ s.size) : (s.extract j k).size = k - j := by rw [ByteArray.size_extract]; omega
theorem extract_get (s : ByteArray) (j k q : Nat) (hk : k ≤ s.size) (h : q < (s.extract j k).size) : ∃ h2 : j + q < s.size, (s.extract j k)[q] = s[j + q] := by
 have := extract_size s j k hk
 exact ⟨by omega, ByteArray.getElem_extract h⟩

theorem num_tok {s : ByteArray} {j : Nat} (hlt : j < s.size) (hdg : Lx.isDig s[j] = true) {l : List UInt8} (hl : (s.data.toList.drop j).takeWhile Lx.isDig = l) :
  (Lx.okNum l = true → Lx.tokAt j (s.data.toList.drop j) = .ok (⟨1, j, [], Lx.numVal l⟩, l.length)) ∧ (Lx.okNum l = false → Lx.tokAt j (s.data.toList.drop j) = .error (3, j)) := by
 rw [drop_cons s j hlt] at hl ⊢
 rw [Lx.tokAt_dig _ _ _ hdg, hl]
 constructor
 ·intro h; rw [if_pos h]
 ·intro h; rw [if_neg (by simp [h])]

theorem name_tok {s : ByteArray} {j : Nat} (hlt : j < s.size) (h0 : Lx.isDig s[j] = false) (h1 : Lx.isLet s[j] = true) {l : List UInt8} (hl : (s.data.toList.drop j).takeWhile Lx.isNm = l) :
  (l.length ≤ 20 → Lx.tokAt j (s.data.toList.drop j) = .ok (⟨if Lx.isWd l then 3 else 2, j, l, 0⟩, l.length)) ∧ (20 < l.length → Lx.tokAt j (s.data.toList.drop j) = .error (3, j)) := by
 rw [drop_cons s j hlt] at hl ⊢
 rw [Lx.tokAt_let _ _ _ h0 h1, hl]
 constructor
 ·intro h; rw [if_pos h]
 ·intro h; rw [if_neg (by omega)]


open Go.RowKit

def Blk (w : World) (b : Nat) (vs : List Value) : Prop := ∀ k v, vs[k]? = some v → w.cell? ⟨b, k, none⟩ = some v ∧ w.frozen? ⟨b, k, none⟩ = false

theorem Blk.of_heap {w w' : World} {b : Nat} {vs : List Value} (h : Blk w b vs) (hh : w'.heap[b]? = w.heap[b]?) : Blk w' b vs := fun k v hk =>
 ⟨(World.cell?_of_block (a := ⟨b, k, none⟩) hh).trans (h k v hk).1, (World.frozen?_of_block (a := ⟨b, k, none⟩) hh).trans (h k v hk).2⟩
theorem Blk.lt {w : World} {b : Nat} {v : Value} {vs : List Value} (h : Blk w b (v :: vs)) : b < w.heap.size := World.block_lt_of_cell? w ⟨b, 0, none⟩ (h 0 v rfl).1
theorem Blk.set {w : World} {b : Nat} {vs : List Value} (h : Blk w b vs) (k : Nat) (hk : k < vs.length) (v : Value) : Blk (w.setCell ⟨b, k, none⟩ v) b (vs.set k v) := by
 intro j u hj
 have ⟨c0, f0⟩ := h k vs[k] (List.getElem?_eq_getElem hk)
 by_cases e : k = j
 ·subst e
  rw [List.getElem?_set_self hk] at hj
  cases hj
  exact ⟨by simp [go_sem, c0], by simp [go_sem, f0]⟩
 ·rw [List.getElem?_set_ne e] at hj
  obtain ⟨c1, f1⟩ := h j u hj
  have e' : ¬ j = k := fun h => e h.symm
  exact ⟨by simp [go_sem, c1], by simp [go_sem, f1]⟩

theorem Blk.new (x : World) (l : List Value) (e : TypeId) : Blk (x.alloc (.cells l.toArray e)) x.heap.size l := by
 intro k v hk
 have hh := heap_alloc_new x (.cells l.toArray e)
 refine ⟨?_, ?_⟩
 ·rw [cell_of_row _ x.heap.size k l.toArray e (0, 0) hh]
  simpa using hk
 ·unfold World.frozen?
  rw [hh]
  simp
theorem Blk.past {x w2 : World} {b : Nat} {v : Value} {l : List Value} (h : Blk x b (v :: l)) (hb : Below x.heap.size x w2) : Blk w2 b (v :: l) := h.of_heap (hb.block b h.lt)
theorem Blk.alloc {x : World} {b : Nat} {v : Value} {l : List Value} (h : Blk x b (v :: l)) (o : Obj) : Blk (x.alloc o) b (v :: l) := h.of_heap (heap_alloc_old x o h.lt)
theorem blk4 {w : World} {b : Nat} {a0 a1 a2 a3 : Value} (h : Blk w b [a0, a1, a2, a3]) :
  w.cell? ⟨b, 0, none⟩ = some a0 ∧ w.cell? ⟨b, 1, none⟩ = some a1 ∧ w.cell? ⟨b, 2, none⟩ = some a2 ∧ w.cell? ⟨b, 3, none⟩ = some a3 ∧
  w.frozen? ⟨b, 0, none⟩ = false ∧ w.frozen? ⟨b, 1, none⟩ = false ∧ w.frozen? ⟨b, 2, none⟩ = false ∧ w.frozen? ⟨b, 3, none⟩ = false :=
 ⟨(h 0 _ rfl).1, (h 1 _ rfl).1, (h 2 _ rfl).1, (h 3 _ rfl).1, (h 0 _ rfl).2, (h 1 _ rfl).2, (h 2 _ rfl).2, (h 3 _ rfl).2⟩
def Kp (b : Nat) (w w' : World) : Prop := w.grownBy w' (some b)
theorem Kp.refl (b : Nat) (w : World) : Kp b w w := ⟨rfl, rfl, rfl, Nat.le_refl _, fun _ _ _ => rfl⟩
theorem Kp.trans {b : Nat} {w1 w2 w3 : World} (h : Kp b w1 w2) (k : Kp b w2 w3) : Kp b w1 w3 :=
 ⟨k.os.trans h.os, k.tape.trans h.tape, k.output.trans h.output, Nat.le_trans h.size k.size, fun i hi hn => (k.block i (Nat.lt_of_lt_of_le hi h.size) hn).trans (h.block i hi hn)⟩
theorem Kp.below {b : Nat} {w1 w2 w3 : World} (h : Kp b w1 w2) (k : Below w2.heap.size w2 w3) : Kp b w1 w3 :=
 h.trans ⟨k.os, k.tape, k.output, k.size, fun i hi _ => k.block i hi⟩
theorem Kp.alloc {b : Nat} {w1 w2 : World} (h : Kp b w1 w2) (o : Obj) : Kp b w1 (w2.alloc o) := h.trans (World.grownBy_alloc _ _ _)
theorem Kp.drew {b : Nat} {w1 w2 : World} (h : Kp b w1 w2) : Kp b w1 w2.drew := h.trans ⟨rfl, rfl, rfl, Nat.le_refl _, fun _ _ _ => rfl⟩
theorem Kp.set {b : Nat} {w1 w2 : World} (h : Kp b w1 w2) (k : Nat) (v : Value) : Kp b w1 (w2.setCell ⟨b, k, none⟩ v) :=
 h.trans ⟨rfl, rfl, rfl, by simp [go_sem], fun i _ hn => Below.heap_setCell _ _ _ _ (fun e => hn (by rw [e]))⟩

theorem Kp.other {b : Nat} {w1 w2 : World} (h : Kp b w1 w2) {c : Nat} (hc : w1.heap.size ≤ c) (k : Nat) (v : Value) : Kp b w1 (w2.setCell ⟨c, k, none⟩ v) :=
 ⟨h.os, h.tape, h.output, by simpa [go_sem] using h.size, fun i hi hn => (Below.heap_setCell _ _ _ _ (fun e => by have e2 : i = c := e; omega)).trans (h.block i hi hn)⟩
theorem tok_num {pos : Nat} {l : List UInt8} {t : Lx.Tk} {n : Nat} (h : Lx.tokAt pos l = .ok (t, n)) : t.num ≤ 9223372036854775807 := by
 unfold Lx.tokAt at h
 by_cases h1 : (l.head?.map Lx.isDig).getD false = true
 ·rw [if_pos h1] at h
  by_cases h2 : Lx.okNum (l.takeWhile Lx.isDig) = true
  ·rw [if_pos h2] at h
   simp only [Except.ok.injEq, Prod.mk.injEq] at h
   rw [← h.1]
   simp only [Lx.okNum, Bool.and_eq_true, decide_eq_true_eq] at h2
   exact h2.2
  ·rw [if_neg h2] at h; cases h
 ·rw [if_neg h1] at h
  by_cases h2 : (l.head?.map Lx.isLet).getD false = true
  ·rw [if_pos h2] at h
   by_cases h3 : (l.takeWhile Lx.isNm).length ≤ 20
   ·rw [if_pos h3] at h
    simp only [Except.ok.injEq, Prod.mk.injEq] at h
    rw [← h.1]; simp
   ·rw [if_neg h3] at h; cases h
  ·rw [if_neg h2] at h
   by_cases h3 : (l.head?.map Lx.isSg).getD false = true
   ·rw [if_pos h3] at h
    simp only [Except.ok.injEq, Prod.mk.injEq] at h
    rw [← h.1]; simp
   ·rw [if_neg h3] at h; cases h
theorem tok_bad {pos : Nat} {l : List UInt8} {k p : Nat} (h : Lx.tokAt pos l = .error (k, p)) : k ≠ 0 := by
 unfold Lx.tokAt at h
 by_cases h1 : (l.head?.map Lx.isDig).getD false = true
 ·rw [if_pos h1] at h
  by_cases h2 : Lx.okNum (l.takeWhile Lx.isDig) = true
  ·rw [if_pos h2] at h; cases h
  ·rw [if_neg h2] at h; cases h; omega
 ·rw [if_neg h1] at h
  by_cases h2 : (l.head?.map Lx.isLet).getD false = true
  ·rw [if_pos h2] at h
   by_cases h3 : (l.takeWhile Lx.isNm).length ≤ 20
   ·rw [if_pos h3] at h; cases h
   ·rw [if_neg h3] at h; cases h; omega
  ·rw [if_neg h2] at h
   by_cases h3 : (l.head?.map Lx.isSg).getD false = true
   ·rw [if_pos h3] at h; cases h
   ·rw [if_neg h3] at h; cases h; omega


open Go.RowKit

theorem Blk.kp {w w' : World} {b c : Nat} {v : Value} {vs : List Value} (h : Blk w c (v :: vs)) (hk : Kp b w w') (hn : c ≠ b) : Blk w' c (v :: vs) := h.of_heap (hk.block c h.lt (fun e => hn (Option.some.inj e)))


open Go.RowKit

def NodeAt (w : World) (g o : Nat) (T : Sy.Tr) (v : Value) : Prop :=
 w.cell? ⟨g, o, none⟩ = some (.int .i64 T.kind) ∧ w.cell? ⟨g, o + 1, none⟩ = some (.int .i64 T.pos) ∧ w.cell? ⟨g, o + 2, none⟩ = some (.string ⟨T.name.toArray⟩) ∧
 w.cell? ⟨g, o + 3, none⟩ = some (.int .i64 T.num) ∧ w.cell? ⟨g, o + 4, none⟩ = some v

inductive Kids (w : World) (F : Nat → Prop) : Value → List Sy.Tr → Prop
 | nil : Kids w F (.slice none 0 0) []
 | row (g c : Nat) (kids : List Sy.Tr) (ks : Nat → Value) (hg : F g) (h0 : kids ≠ []) (hc : kids.length ≤ c)
   (hcell : ∀ i (h : i < kids.length), NodeAt w g (i * 5) kids[i] (ks i))
   (hk : ∀ i (h : i < kids.length), Kids w F (ks i) kids[i].kids) : Kids w F (.slice (some ⟨g, 0, none⟩) kids.length c) kids

theorem NodeAt.lt {w : World} {g o : Nat} {T : Sy.Tr} {v : Value} (h : NodeAt w g o T v) : g < w.heap.size := World.block_lt_of_cell? w ⟨g, o, none⟩ h.1
theorem NodeAt.of_heap {w w' : World} {g o : Nat} {T : Sy.Tr} {v : Value} (h : NodeAt w g o T v) (hh : w'.heap[g]? = w.heap[g]?) : NodeAt w' g o T v := by
 obtain ⟨h0, h1, h2, h3, h4⟩ := h
 exact ⟨(World.cell?_of_block (a := ⟨g, _, none⟩) hh).trans h0, (World.cell?_of_block (a := ⟨g, _, none⟩) hh).trans h1, (World.cell?_of_block (a := ⟨g, _, none⟩) hh).trans h2,
  (World.cell?_of_block (a := ⟨g, _, none⟩) hh).trans h3, (World.cell?_of_block (a := ⟨g, _, none⟩) hh).trans h4⟩

theorem Kids.carry {w w' : World} {F F' : Nat → Prop} {v : Value} {l : List Sy.Tr} (h : Kids w F v l) (hw : ∀ g, F g → g < w.heap.size → w'.heap[g]? = w.heap[g]?) (hF : ∀ g, F g → g < w.heap.size → F' g) : Kids w' F' v l := by
 induction h with
 | nil => exact .nil
 | row g c kids ks hg h0 hc hcell hk ih =>
  have hlt : g < w.heap.size := (hcell 0 (List.length_pos_iff.2 h0)).lt
  exact .row g c kids ks (hF g hg hlt) h0 hc (fun i hi => (hcell i hi).of_heap (hw g hg hlt)) ih

theorem Kids.kp {w w' : World} {b lo hi : Nat} {v : Value} {l : List Sy.Tr} (h : Kids w (fun g => lo ≤ g) v l) (hk : Kp b w w') (hb : b < lo) (hl : hi ≤ lo) : Kids w' (fun g => hi ≤ g) v l :=
 h.carry (fun g hg hlt => hk.block g hlt (fun e => by have := Option.some.inj e; omega)) (fun g hg _ => Nat.le_trans hl hg)
theorem Kids.past {w w' : World} {lo hi : Nat} {v : Value} {l : List Sy.Tr} (h : Kids w (fun g => lo ≤ g) v l) (hk : Below w.heap.size w w') (hl : hi ≤ lo) : Kids w' (fun g => hi ≤ g) v l :=
 h.carry (fun g _ hlt => hk.block g hlt) (fun _ hg _ => Nat.le_trans hl hg)
theorem Kids.slice {w : World} {F : Nat → Prop} {v : Value} {l : List Sy.Tr} (h : Kids w F v l) : ∃ a c, v = .slice a l.length c := by
 cases h with
 | nil => exact ⟨_, _, rfl⟩
 | row g c kids ks => exact ⟨_, _, rfl⟩

def nodeCells (T : Sy.Tr) (v : Value) : List Value := [.int .i64 T.kind, .int .i64 T.pos, .string ⟨T.name.toArray⟩, .int .i64 T.num, v]
def rowCells (l : List (Sy.Tr × Value)) : List Value := l.flatMap fun p => nodeCells p.1 p.2

theorem rowCells_get : ∀ (l : List (Sy.Tr × Value)) (i j : Nat) (h : i < l.length), j < 5 → (rowCells l)[i * 5 + j]? = (nodeCells l[i].1 l[i].2)[j]? := by
 intro l
 induction l with
 | nil => intro i j h; simp at h
 | cons t l ih =>
  intro i j h hj
  have e : rowCells (t :: l) = nodeCells t.1 t.2 ++ rowCells l := by simp [rowCells]
  have hl : (nodeCells t.1 t.2).length = 5 := rfl
  rw [e]
  cases i with
  | zero =>
   rw [Nat.zero_mul, Nat.zero_add, List.getElem?_append_left (by omega)]
   rfl
  | succ i =>
   rw [List.getElem?_append_right (by omega), hl, show (i + 1) * 5 + j - 5 = i * 5 + j by omega]
   exact ih i j (by simpa using h) hj
theorem rowCells_len (l : List (Sy.Tr × Value)) : (rowCells l).length = l.length * 5 := by
 induction l with
 | nil => rfl
 | cons t l ih =>
  have e : rowCells (t :: l) = nodeCells t.1 t.2 ++ rowCells l := by simp [rowCells]
  have hl : (nodeCells t.1 t.2).length = 5 := rfl
  rw [e, List.length_append, ih, hl, List.length_cons]
  omega

theorem kids_lit {w : World} {F : Nat → Prop} {g c : Nat} (l : List (Sy.Tr × Value)) (hF : F g) (h0 : l ≠ []) (hc : l.length ≤ c) (hcell : ∀ j v, (rowCells l)[j]? = some v → w.cell? ⟨g, j, none⟩ = some v)
  (hk : ∀ p ∈ l, Kids w F p.2 p.1.kids) : Kids w F (.slice (some ⟨g, 0, none⟩) l.length c) (l.map (·.1)) := by
 have hl : (l.map (·.1)).length = l.length := by simp
 have := Kids.row (w := w) (F := F) g c (l.map (·.1)) (fun i => ((l[i]?).map (·.2)).getD .nilIface) hF (by simpa using h0) (by simpa using hc) ?_ ?_
 ·rw [hl] at this; exact this
 ·intro i hi
  have hi' : i < l.length := by simpa using hi
  have hc : ∀ j, j < 5 → w.cell? ⟨g, i * 5 + j, none⟩ = (nodeCells l[i].1 l[i].2)[j]? := fun j hj => by
   have h1 := rowCells_get l i j hi' hj
   have h2 : j < (nodeCells l[i].1 l[i].2).length := hj
   rw [List.getElem?_eq_getElem h2] at h1 ⊢
   exact hcell _ _ h1
  simp only [List.getElem_map, List.getElem?_eq_getElem hi', Option.map_some, Option.getD_some]
  exact ⟨hc 0 (by omega), hc 1 (by omega), hc 2 (by omega), hc 3 (by omega), hc 4 (by omega)⟩
 ·intro i hi
  have hi' : i < l.length := by simpa using hi
  simp only [List.getElem_map, List.getElem?_eq_getElem hi', Option.map_some, Option.getD_some]
  exact hk _ (List.getElem_mem hi')

theorem blk5 {w : World} {b : Nat} {a0 a1 a2 a3 a4 : Value} (h : Blk w b [a0, a1, a2, a3, a4]) :
  (w.cell? ⟨b, 0, none⟩ = some a0 ∧ w.cell? ⟨b, 1, none⟩ = some a1 ∧ w.cell? ⟨b, 2, none⟩ = some a2 ∧ w.cell? ⟨b, 3, none⟩ = some a3 ∧ w.cell? ⟨b, 4, none⟩ = some a4) ∧
  (w.frozen? ⟨b, 0, none⟩ = false ∧ w.frozen? ⟨b, 1, none⟩ = false ∧ w.frozen? ⟨b, 2, none⟩ = false ∧ w.frozen? ⟨b, 3, none⟩ = false ∧ w.frozen? ⟨b, 4, none⟩ = false) :=
 ⟨⟨(h 0 _ rfl).1, (h 1 _ rfl).1, (h 2 _ rfl).1, (h 3 _ rfl).1, (h 4 _ rfl).1⟩, (h 0 _ rfl).2, (h 1 _ rfl).2, (h 2 _ rfl).2, (h 3 _ rfl).2, (h 4 _ rfl).2⟩

theorem Blk.other {w : World} {b c : Nat} {vs : List Value} (h : Blk w b vs) (hc : b ≠ c) (k : Nat) (v : Value) : Blk (w.setCell ⟨c, k, none⟩ v) b vs := h.of_heap (Below.heap_setCell _ _ _ _ hc)
theorem Blk.store {w : World} {A : Nat} {o0 o1 o2 o3 o4 : Value} (h : Blk w A [o0, o1, o2, o3, o4]) (v0 v1 v2 v3 v4 : Value) :
  Blk (((((w.setCell ⟨A, 0, none⟩ v0).setCell ⟨A, 1, none⟩ v1).setCell ⟨A, 2, none⟩ v2).setCell ⟨A, 3, none⟩ v3).setCell ⟨A, 4, none⟩ v4) A [v0, v1, v2, v3, v4] :=
 ((((h.set 0 (by simp) v0).set 1 (by simp) v1).set 2 (by simp) v2).set 3 (by simp) v3).set 4 (by simp) v4
def sto5 (w : World) (A : Nat) (v0 v1 v2 v3 v4 : Value) : World := ((((w.setCell ⟨A, 0, none⟩ v0).setCell ⟨A, 1, none⟩ v1).setCell ⟨A, 2, none⟩ v2).setCell ⟨A, 3, none⟩ v3).setCell ⟨A, 4, none⟩ v4
theorem sto5_heap (w : World) (A k : Nat) (v0 v1 v2 v3 v4 : Value) (h : k ≠ A) : (sto5 w A v0 v1 v2 v3 v4).heap[k]? = w.heap[k]? := by
 unfold sto5
 rw [Below.heap_setCell _ _ _ _ h, Below.heap_setCell _ _ _ _ h, Below.heap_setCell _ _ _ _ h, Below.heap_setCell _ _ _ _ h, Below.heap_setCell _ _ _ _ h]
theorem sto5_kp {w w2 : World} {b A : Nat} (h : Kp b w w2) (hA : w.heap.size ≤ A) (v0 v1 v2 v3 v4 : Value) : Kp b w (sto5 w2 A v0 v1 v2 v3 v4) :=
 ((((h.other hA _ _).other hA _ _).other hA _ _).other hA _ _).other hA _ _
def z5 : Array Value := #[.int .i64 0, .int .i64 0, .string ⟨#[]⟩, .int .i64 0, .slice none 0 0]
theorem Kids.kpF {w w' : World} {F : Nat → Prop} {b : Nat} {v : Value} {l : List Sy.Tr} (h : Kids w F v l) (hk : Kp b w w') (hF : ∀ g, F g → g ≠ b) : Kids w' F v l :=
 h.carry (fun g hg hlt => hk.block g hlt (fun e => hF g hg (Option.some.inj e))) (fun _ hg _ => hg)
theorem Kids.pastF {w w' : World} {F : Nat → Prop} {v : Value} {l : List Sy.Tr} (h : Kids w F v l) (hk : Below w.heap.size w w') : Kids w' F v l :=
 h.carry (fun g _ hlt => hk.block g hlt) (fun _ hg _ => hg)
theorem Kids.weak {w : World} {F F' : Nat → Prop} {v : Value} {l : List Sy.Tr} (h : Kids w F v l) (hF : ∀ g, F g → g < w.heap.size → F' g) : Kids w F' v l :=
 h.carry (fun _ _ _ => rfl) hF

def Fr (lo A : Nat) : Nat → Prop := fun g => lo ≤ g ∧ g ≠ A
structure Vr (W : World) (A lo : Nat) (T : Sy.Tr) (a : Option Addr) (l c : Nat) : Prop where
 cells : Blk W A [.int .i64 T.kind, .int .i64 T.pos, .string ⟨T.name.toArray⟩, .int .i64 T.num, .slice a l c]
 kids : Kids W (Fr lo A) (.slice a l c) T.kids
theorem Vr.lt {W : World} {A lo : Nat} {T : Sy.Tr} {a : Option Addr} {l c : Nat} (h : Vr W A lo T a l c) : A < W.heap.size := h.cells.lt
theorem Vr.kp {W W' : World} {A lo b : Nat} {T : Sy.Tr} {a : Option Addr} {l c : Nat} (h : Vr W A lo T a l c) (hk : Kp b W W') (h1 : A ≠ b) (h2 : b < lo) : Vr W' A lo T a l c :=
 ⟨h.cells.kp hk h1, h.kids.kpF hk (fun g hg => by have := hg.1; omega)⟩
theorem Vr.past {W W' : World} {A lo : Nat} {T : Sy.Tr} {a : Option Addr} {l c : Nat} (h : Vr W A lo T a l c) (hk : Below W.heap.size W W') : Vr W' A lo T a l c := ⟨h.cells.past hk, h.kids.pastF hk⟩
theorem Vr.alloc {W : World} {A lo : Nat} {T : Sy.Tr} {a : Option Addr} {l c : Nat} (h : Vr W A lo T a l c) (o : Obj) : Vr (W.alloc o) A lo T a l c := h.past ((Below.refl _ _).alloc (Nat.le_refl _) o)
theorem Vr.same {W W' : World} {A lo : Nat} {T : Sy.Tr} {a : Option Addr} {l c : Nat} (h : Vr W A lo T a l c) (hw : W'.heap = W.heap) : Vr W' A lo T a l c :=
 ⟨h.cells.of_heap (by rw [hw]), h.kids.carry (fun _ _ _ => by rw [hw]) (fun _ hg _ => hg)⟩
theorem Vr.weak {W : World} {A lo lo' : Nat} {T : Sy.Tr} {a : Option Addr} {l c : Nat} (h : Vr W A lo T a l c) (hl : lo' ≤ lo) : Vr W A lo' T a l c := ⟨h.cells, h.kids.weak (fun _ hg _ => ⟨Nat.le_trans hl hg.1, hg.2⟩)⟩
theorem vr_new {w1 : World} {lo : Nat} {T : Sy.Tr} {a : Option Addr} {l c : Nat} (h : Kids w1 (fun g => lo ≤ g) (.slice a l c) T.kids) (ty : TypeId) :
  Vr (w1.alloc (.cells #[.int .i64 T.kind, .int .i64 T.pos, .string ⟨T.name.toArray⟩, .int .i64 T.num, .slice a l c] ty)) w1.heap.size lo T a l c :=
 ⟨Blk.new w1 [_, _, _, _, _] ty, (h.weak (fun g hg hlt => ⟨hg, by omega⟩)).pastF ((Below.refl _ _).alloc (Nat.le_refl _) _)⟩

theorem kids_new {w1 w2 : World} {F : Nat → Prop} {ty : TypeId} (l : List (Sy.Tr × Value)) (h0 : l ≠ []) (hF : F w1.heap.size) (hk : ∀ p ∈ l, Kids w1 F p.2 p.1.kids) (cs : Array Value) (hcs : cs = (rowCells l).toArray) (n : Nat) (hn : n = l.length)
  (hb : Below (w1.alloc (.cells cs ty)).heap.size (w1.alloc (.cells cs ty)) w2) : Kids w2 F (.slice (some ⟨w1.heap.size, 0, none⟩) n n) (l.map (·.1)) := by
 subst hcs hn
 have hne : ∃ v vs, rowCells l = v :: vs := by
  cases l with
  | nil => exact absurd rfl h0
  | cons p l => exact ⟨_, _, rfl⟩
 obtain ⟨v, vs, hv⟩ := hne
 have hB : Blk w2 w1.heap.size (rowCells l) := by
  have := Blk.new w1 (rowCells l) ty
  rw [hv] at this hb ⊢
  exact this.past hb
 refine kids_lit l hF h0 (Nat.le_refl _) (fun j v hj => (hB j v hj).1) ?_
 intro p hp
 exact ((hk p hp).pastF ((Below.refl _ _).alloc (Nat.le_refl _) _)).pastF hb

theorem Kids.free {W : World} {A lo hi : Nat} {v : Value} {l : List Sy.Tr} (h : Kids W (Fr lo A) v l) (hl : hi ≤ lo) : Kids W (fun g => hi ≤ g) v l := h.weak (fun _ hg _ => Nat.le_trans hl hg.1)

end Go.Proofs.YtoajnlhegallpaaGreatDoor
