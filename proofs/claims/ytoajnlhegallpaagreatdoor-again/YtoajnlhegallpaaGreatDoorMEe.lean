/-
  The tokens up to a fault are those of the text cut there: plain laws, no program is named here.
  With what the program's reader begins: plain laws, no program is named here.
  What newReader does.
-/
import Derived.Test.YtoajnlhegallpaaGreatDoorMRx
import Derived.Test.YtoajnlhegallpaaGreatDoorMLa
import Derived.Test.YtoajnlhegallpaaGreatDoorMLh
import Derived.Test.YtoajnlhegallpaaGreatDoorMDk
set_option linter.unusedVariables false
set_option linter.unusedSimpArgs false
set_option maxRecDepth 100000
set_option maxHeartbeats 1000000
namespace Go.Proofs.YtoajnlhegallpaaGreatDoor
open Lx

theorem tokAt_bad {pos : Nat} {l : List UInt8} {k p : Nat} (h : tokAt pos l = .error (k, p)) : k ≠ 0 ∧ p = pos := by
 refine ⟨tok_bad h, ?_⟩
 unfold tokAt at h
 split at h
 ·split at h
  ·cases h
  ·cases h; rfl
 ·split at h
  ·split at h
   ·cases h
   ·cases h; rfl
  ·split at h
   ·cases h
   ·cases h; rfl

theorem lexF_toksF (N : Nat) : ∀ (f pos : Nat) (l : List UInt8), l.length < f → lexF N f pos l = if (toksF f pos l).2.1 = 0 then .ok ((toksF f pos l).1 ++ [⟨0, N, [], 0⟩]) else .error (toksF f pos l).2 := by
 intro f
 induction f with
 | zero => intro pos l h; omega
 | succ f ih =>
  intro pos l h
  cases l with
  | nil => simp [lexF, toksF]
  | cons c r =>
   simp only [List.length_cons] at h
   by_cases hb : isBl c = true
   ·have e1 : lexF N (f + 1) pos (c :: r) = lexF N f (pos + 1) r := by simp only [lexF, if_pos hb]
    have e2 : toksF (f + 1) pos (c :: r) = toksF f (pos + 1) r := by simp only [toksF, if_pos hb]
    rw [e1, e2]
    exact ih _ _ (by omega)
   ·by_cases hh : c.toNat = 35
    ·have e1 : lexF N (f + 1) pos (c :: r) = lexF N f (pos + ((c :: r).takeWhile notNl).length) ((c :: r).dropWhile notNl) := by
      simp only [lexF, if_neg hb, if_pos hh]
     have e2 : toksF (f + 1) pos (c :: r) = toksF f (pos + ((c :: r).takeWhile notNl).length) ((c :: r).dropWhile notNl) := by
      simp only [toksF, if_neg hb, if_pos hh]
     rw [e1, e2]
     have := dropWhile_len c r hh
     exact ih _ _ (by omega)
    ·rcases hT : tokAt pos (c :: r) with ⟨k, p⟩ | ⟨t, n⟩
     ·have e1 : lexF N (f + 1) pos (c :: r) = .error (k, p) := by simp only [lexF, if_neg hb, if_neg hh, hT]
      have e2 : toksF (f + 1) pos (c :: r) = ([], (k, p)) := by simp only [toksF, if_neg hb, if_neg hh, hT]
      have := (tokAt_bad hT).1
      rw [e1, e2, if_neg this]
     ·have hp := tokAt_pos hT
      simp only [List.length_cons] at hp
      have e1 : lexF N (f + 1) pos (c :: r) = consTo t (lexF N f (pos + n) ((c :: r).drop n)) := by simp only [lexF, if_neg hb, if_neg hh, hT]
      have e2 : toksF (f + 1) pos (c :: r) = tcons t (toksF f (pos + n) ((c :: r).drop n)) := by simp only [toksF, if_neg hb, if_neg hh, hT]
      rw [e1, e2, ih (pos + n) ((c :: r).drop n) (by simp only [List.length_drop, List.length_cons]; omega)]
      generalize toksF f (pos + n) ((c :: r).drop n) = q
      obtain ⟨q1, q2⟩ := q
      show consTo t (if q2.1 = 0 then _ else _) = if q2.1 = 0 then Except.ok (t :: q1 ++ [⟨0, N, [], 0⟩]) else Except.error q2
      by_cases hq : q2.1 = 0
      ·rw [if_pos hq, if_pos hq]; rfl
      ·rw [if_neg hq, if_neg hq]; rfl
theorem lex_toks (N pos : Nat) (l : List UInt8) : lex N pos l = if (toks N pos l).2.1 = 0 then .ok ((toks N pos l).1 ++ [⟨0, N, [], 0⟩]) else .error (toks N pos l).2 := lexF_toksF N _ pos l (Nat.lt_succ_self _)

theorem takeWhile_cut {p : UInt8 → Bool} : ∀ (l : List UInt8) (m : Nat), (l.takeWhile p).length ≤ m → (l.take m).takeWhile p = l.takeWhile p := by
 intro l
 induction l with
 | nil => intro m h; simp
 | cons c r ih =>
  intro m h
  by_cases hc : p c = true
  ·simp only [List.takeWhile_cons, hc, if_true, List.length_cons] at h
   obtain ⟨m, rfl⟩ : ∃ k, m = k + 1 := ⟨m - 1, by omega⟩
   simp only [List.take_succ_cons, List.takeWhile_cons, hc, if_true]
   rw [ih m (by omega)]
  ·cases m with
   | zero => simp [hc]
   | succ m => simp [hc]
theorem dropWhile_cut {p : UInt8 → Bool} : ∀ (l : List UInt8) (m : Nat), (l.takeWhile p).length ≤ m → (l.take m).dropWhile p = (l.dropWhile p).take (m - (l.takeWhile p).length) := by
 intro l
 induction l with
 | nil => intro m h; simp
 | cons c r ih =>
  intro m h
  by_cases hc : p c = true
  ·simp only [List.takeWhile_cons, hc, if_true, List.length_cons] at h
   obtain ⟨m, rfl⟩ : ∃ k, m = k + 1 := ⟨m - 1, by omega⟩
   simp only [List.take_succ_cons, List.dropWhile_cons, List.takeWhile_cons, hc, if_true, List.length_cons]
   rw [ih m (by omega)]
   congr 1
   omega
  ·cases m with
   | zero => simp [hc]
   | succ m => simp [hc]
theorem signLen_take (c : UInt8) (r : List UInt8) (m : Nat) (h : signLen (c :: r) ≤ m + 1) : signLen (c :: r.take m) = signLen (c :: r) ∧ (c :: r.take m).take (signLen (c :: r)) = (c :: r).take (signLen (c :: r)) := by
 unfold signLen at h ⊢
 by_cases h3 : twos.contains ((c :: r).take 2) = true
 ·rw [if_pos h3] at h ⊢
  obtain ⟨m, rfl⟩ : ∃ k, m = k + 1 := ⟨m - 1, by omega⟩
  have e : (c :: r.take (m + 1)).take 2 = (c :: r).take 2 := by
   cases r with
   | nil => simp
   | cons a b => simp
  rw [e, if_pos h3]
  exact ⟨rfl, rfl⟩
 ·rw [if_neg h3] at h ⊢
  refine ⟨?_, by simp⟩
  by_cases h4 : twos.contains ((c :: r.take m).take 2) = true
  ·exfalso
   cases m with
   | zero => simp [twos] at h4
   | succ m =>
    have e : (c :: r.take (m + 1)).take 2 = (c :: r).take 2 := by
     cases r with
     | nil => simp
     | cons a b => simp
    rw [e] at h4
    exact h3 h4
  ·rw [if_neg h4]
theorem tokAt_take {pos : Nat} {c : UInt8} {r : List UInt8} {t : Tk} {n m : Nat} (h : tokAt pos (c :: r) = .ok (t, n)) (hm : n ≤ m) : tokAt pos ((c :: r).take m) = .ok (t, n) := by
 have hp := tokAt_pos h
 obtain ⟨m, rfl⟩ : ∃ k, m = k + 1 := ⟨m - 1, by omega⟩
 rw [List.take_succ_cons]
 have etake : c :: r.take m = (c :: r).take (m + 1) := by rw [List.take_succ_cons]
 cases h1 : isDig c with
 | true =>
  rw [tokAt_dig pos c r h1] at h
  rw [tokAt_dig pos c (r.take m) h1]
  by_cases h2 : okNum ((c :: r).takeWhile isDig) = true
  ·rw [if_pos h2] at h
   have hn : ((c :: r).takeWhile isDig).length = n := by simp only [Except.ok.injEq, Prod.mk.injEq] at h; exact h.2
   rw [etake, takeWhile_cut _ _ (by omega), if_pos h2]
   exact h
  ·rw [if_neg h2] at h; cases h
 | false =>
  cases h2 : isLet c with
  | true =>
   rw [tokAt_let pos c r h1 h2] at h
   rw [tokAt_let pos c (r.take m) h1 h2]
   by_cases h3 : ((c :: r).takeWhile isNm).length ≤ 20
   ·rw [if_pos h3] at h
    have hn : ((c :: r).takeWhile isNm).length = n := by simp only [Except.ok.injEq, Prod.mk.injEq] at h; exact h.2
    rw [etake, takeWhile_cut _ _ (by omega), if_pos h3]
    exact h
   ·rw [if_neg h3] at h; cases h
  | false =>
   cases h3 : isSg c with
   | true =>
    rw [tokAt_sg pos c r h1 h2 h3] at h
    rw [tokAt_sg pos c (r.take m) h1 h2 h3]
    have hn : signLen (c :: r) = n := by simp only [Except.ok.injEq, Prod.mk.injEq] at h; exact h.2
    obtain ⟨e1, e2⟩ := signLen_take c r m (by omega)
    rw [e1, e2]
    exact h
   | false =>
    rw [tokAt_no pos c r h1 h2 h3] at h; cases h

theorem toksF_cut : ∀ (f pos : Nat) (l : List UInt8) (ts : List Tk) (k p : Nat), l.length < f → toksF f pos l = (ts, (k, p)) → k ≠ 0 → pos ≤ p ∧ p - pos ≤ l.length ∧ ∀ g, l.length < g → toksF g pos (l.take (p - pos)) = (ts, (0, 0)) := by
 intro f
 induction f with
 | zero => intro pos l ts k p h; omega
 | succ f ih =>
  intro pos l ts k p h he hk
  cases l with
  | nil =>
   simp only [toksF, Prod.mk.injEq] at he
   omega
  | cons c r =>
   simp only [List.length_cons] at h
   simp only [toksF] at he
   by_cases hb : isBl c = true
   ·rw [if_pos hb] at he
    obtain ⟨h1, h2, h3⟩ := ih _ _ _ _ _ (by omega) he hk
    refine ⟨by omega, by simp only [List.length_cons]; omega, fun g hg => ?_⟩
    obtain ⟨g, rfl⟩ : ∃ x, g = x + 1 := ⟨g - 1, by simp only [List.length_cons] at hg; omega⟩
    rw [show p - pos = (p - (pos + 1)) + 1 by omega, List.take_succ_cons]
    simp only [toksF]
    rw [if_pos hb]
    exact h3 g (by simp only [List.length_cons] at hg; omega)
   ·rw [if_neg hb] at he
    by_cases hh : c.toNat = 35
    ·rw [if_pos hh] at he
     have hd := dropWhile_len c r hh
     obtain ⟨h1, h2, h3⟩ := ih _ _ _ _ _ (by omega) he hk
     have hlen : ((c :: r).takeWhile notNl).length + ((c :: r).dropWhile notNl).length = (c :: r).length := by
      rw [← List.length_append, List.takeWhile_append_dropWhile]
     have hc1 : notNl c = true := by simp [notNl, hh]
     have hpos : 1 ≤ ((c :: r).takeWhile notNl).length := by simp [hc1]
     refine ⟨by omega, by omega, fun g hg => ?_⟩
     obtain ⟨g, rfl⟩ : ∃ x, g = x + 1 := ⟨g - 1, by omega⟩
     obtain ⟨q, hq⟩ : ∃ q, p - pos = q + 1 := ⟨p - pos - 1, by omega⟩
     rw [hq, List.take_succ_cons]
     simp only [toksF]
     rw [if_neg hb, if_pos hh]
     have e : c :: r.take q = (c :: r).take (q + 1) := by rw [List.take_succ_cons]
     rw [e, takeWhile_cut _ _ (by omega), dropWhile_cut _ _ (by omega), show q + 1 - ((c :: r).takeWhile notNl).length = p - (pos + ((c :: r).takeWhile notNl).length) by omega]
     exact h3 g (by simp only [List.length_cons] at hg; omega)
    ·rw [if_neg hh] at he
     rcases hT : tokAt pos (c :: r) with ⟨k2, p2⟩ | ⟨t, n⟩
     ·rw [hT] at he
      simp only [Prod.mk.injEq] at he
      obtain ⟨rfl, rfl, rfl⟩ := he
      have := (tokAt_bad hT).2
      subst this
      refine ⟨Nat.le_refl _, by omega, fun g hg => ?_⟩
      obtain ⟨g, rfl⟩ : ∃ x, g = x + 1 := ⟨g - 1, by omega⟩
      rw [Nat.sub_self, List.take_zero]
      simp [toksF]
     ·rw [hT] at he
      have hp := tokAt_pos hT
      simp only [tcons] at he
      obtain ⟨h1, h2, h3⟩ := ih (pos + n) ((c :: r).drop n) (toksF f (pos + n) ((c :: r).drop n)).1 k p (by simp only [List.length_drop, List.length_cons]; omega) (by rw [← (Prod.mk.inj he).2]) hk
      simp only [List.length_drop, List.length_cons] at h2 hp
      refine ⟨by omega, by simp only [List.length_cons]; omega, fun g hg => ?_⟩
      obtain ⟨g, rfl⟩ : ∃ x, g = x + 1 := ⟨g - 1, by omega⟩
      obtain ⟨q, hq⟩ : ∃ q, p - pos = q + 1 := ⟨p - pos - 1, by omega⟩
      have hcut := tokAt_take (m := q + 1) hT (by omega)
      rw [hq, List.take_succ_cons]
      rw [List.take_succ_cons] at hcut
      simp only [toksF]
      rw [if_neg hb, if_neg hh, hcut]
      simp only [tcons]
      have e : c :: r.take q = (c :: r).take (q + 1) := by rw [List.take_succ_cons]
      rw [e, List.drop_take, show q + 1 - n = p - (pos + n) by omega, h3 g (by simp only [List.length_drop, List.length_cons] at hg ⊢; omega)]
      rw [← (Prod.mk.inj he).1]

open Lx

theorem tokAt_gd {pos : Nat} {c : UInt8} {r : List UInt8} {t : Tk} {n : Nat} (h : tokAt pos (c :: r) = .ok (t, n)) : Sy.Gd t ∧ t.num ≤ 9223372036854775807 := by
 refine ⟨?_, tok_num h⟩
 cases h1 : isDig c with
 | true =>
  rw [tokAt_dig pos c r h1] at h
  by_cases h2 : okNum ((c :: r).takeWhile isDig) = true
  ·rw [if_pos h2] at h
   simp only [Except.ok.injEq, Prod.mk.injEq] at h
   rw [← h.1]
   exact .inl ⟨rfl, rfl⟩
  ·rw [if_neg h2] at h; cases h
 | false =>
  cases h2 : isLet c with
  | true =>
   rw [tokAt_let pos c r h1 h2] at h
   by_cases h3 : ((c :: r).takeWhile isNm).length ≤ 20
   ·rw [if_pos h3] at h
    simp only [Except.ok.injEq, Prod.mk.injEq] at h
    rw [← h.1]
    by_cases h4 : isWd ((c :: r).takeWhile isNm) = true
    ·refine .inr (.inr (.inl ?_))
     simp only [h4, if_true]
    ·refine .inr (.inl ⟨by simp only [h4]; rfl, ⟨c, r.takeWhile isNm, ?_, h2⟩, by simpa using h4⟩)
     have h5 : isNm c = true := by simp [isNm, h2]
     simp [h5]
   ·rw [if_neg h3] at h; cases h
  | false =>
   cases h3 : isSg c with
   | true =>
    rw [tokAt_sg pos c r h1 h2 h3] at h
    simp only [Except.ok.injEq, Prod.mk.injEq] at h
    rw [← h.1]
    exact .inr (.inr (.inr rfl))
   | false => rw [tokAt_no pos c r h1 h2 h3] at h; cases h
theorem toksF_gd : ∀ (f pos : Nat) (l : List UInt8), ∀ t ∈ (toksF f pos l).1, Sy.Gd t ∧ t.num ≤ 9223372036854775807 := by
 intro f
 induction f with
 | zero => intro pos l t ht; simp [toksF] at ht
 | succ f ih =>
  intro pos l t ht
  cases l with
  | nil => simp [toksF] at ht
  | cons c r =>
   simp only [toksF] at ht
   by_cases hb : isBl c = true
   ·rw [if_pos hb] at ht
    exact ih _ _ t ht
   ·rw [if_neg hb] at ht
    by_cases hh : c.toNat = 35
    ·rw [if_pos hh] at ht
     exact ih _ _ t ht
    ·rw [if_neg hh] at ht
     rcases hT : tokAt pos (c :: r) with e | ⟨u, n⟩
     ·rw [hT] at ht; simp at ht
     ·rw [hT] at ht
      simp only [tcons, List.mem_cons] at ht
      rcases ht with rfl | ht
      ·exact tokAt_gd hT
      ·exact ih _ _ t ht

theorem toksF_ok : ∀ (f pos : Nat) (l : List UInt8), (toksF f pos l).2.1 = 0 → (toksF f pos l).2 = (0, 0) := by
 intro f
 induction f with
 | zero => intro pos l _; rfl
 | succ f ih =>
  intro pos l h
  cases l with
  | nil => rfl
  | cons c r =>
   simp only [toksF] at h ⊢
   by_cases hb : isBl c = true
   ·rw [if_pos hb] at h ⊢
    exact ih _ _ h
   ·rw [if_neg hb] at h ⊢
    by_cases hh : c.toNat = 35
    ·rw [if_pos hh] at h ⊢
     exact ih _ _ h
    ·rw [if_neg hh] at h ⊢
     rcases hT : tokAt pos (c :: r) with ⟨k, p⟩ | ⟨u, n⟩
     ·rw [hT] at h
      exact absurd h (tokAt_bad hT).1
     ·rw [hT] at h
      exact ih _ _ h

def rdTs (s : ByteArray) : List Tk := if 3000 < s.size then [] else (toks s.size 0 s.data.toList).1
def rdEnv (s : ByteArray) : Sy.Env := if 3000 < s.size then ⟨(1, 0), s.size⟩ else envOf s
theorem rd_good (s : ByteArray) : ∀ t ∈ rdTs s, Sy.Gd t ∧ t.num ≤ 9223372036854775807 := by
 intro t ht
 unfold rdTs at ht
 split at ht
 ·simp at ht
 ·exact toksF_gd _ _ _ t ht
theorem rd_len (s : ByteArray) : (rdTs s).length ≤ 3000 := by
 unfold rdTs
 split
 ·simp
 ·have h1 := toksF_len (s.data.toList.length + 1) 0 s.data.toList
  have : s.data.toList.length = s.size := size_len s
  unfold toks
  omega
theorem rd_begin (s : ByteArray) :
  ((rdEnv s).fin = (0, 0) ∧ (rdEnv s).stop = s.size ∧ Lr.answer s = (0, 0, rdTs s ++ [⟨0, s.size, [], 0⟩])) ∨
  ((rdEnv s).fin.1 ≠ 0 ∧ Lr.answer s = ((rdEnv s).fin.1, (rdEnv s).fin.2, []) ∧ (rdEnv s).fin.2 ≤ s.size ∧
   ∀ x : ByteArray, x.data.toList = s.data.toList.take (rdEnv s).fin.2 → Lr.answer x = (0, 0, rdTs s ++ [⟨0, (rdEnv s).fin.2, [], 0⟩])) := by
 by_cases hl : 3000 < s.size
 ·right
  simp only [rdEnv, rdTs, if_pos hl, Lr.answer_long hl]
  refine ⟨by omega, trivial, Nat.zero_le _, fun x hx => ?_⟩
  have hz : x.size = 0 := by
   have := size_len x
   rw [hx] at this
   simpa using this.symm
  rw [Lr.answer, if_neg (by omega), hz, hx]
  simp [Lx.lex, Lx.lexF, Lr.endOf]
 ·have he : rdEnv s = envOf s := by simp [rdEnv, hl]
  have ht : rdTs s = (toks s.size 0 s.data.toList).1 := by simp [rdTs, hl]
  have hlx := lex_toks s.size 0 s.data.toList
  rw [he, ht]
  by_cases hz : (toks s.size 0 s.data.toList).2.1 = 0
  ·left
   rw [if_pos hz] at hlx
   refine ⟨?_, rfl, Lr.answer_ok (by omega) hlx⟩
   exact toksF_ok _ _ _ hz
  ·right
   rw [if_neg hz] at hlx
   obtain ⟨h1, h2, h3⟩ := toksF_cut (s.data.toList.length + 1) 0 s.data.toList (toks s.size 0 s.data.toList).1 (toks s.size 0 s.data.toList).2.1 (toks s.size 0 s.data.toList).2.2 (Nat.lt_succ_self _) rfl hz
   rw [size_len s] at h2
   refine ⟨hz, Lr.answer_err (by omega) hlx, h2, fun x hx => ?_⟩
   show Lr.answer x = (0, 0, (toks s.size 0 s.data.toList).1 ++ [⟨0, (toks s.size 0 s.data.toList).2.2, [], 0⟩])
   have hxl : x.size = (toks s.size 0 s.data.toList).2.2 := by
    rw [← size_len x, hx, List.length_take, size_len s]
    show min (toks s.size 0 s.data.toList).2.2 s.size = _
    omega
   refine Lr.answer_ok (by omega) ?_
   have h4 : toks x.size 0 x.data.toList = ((toks s.size 0 s.data.toList).1, (0, 0)) := by
    have h5 := h3 (s.data.toList.length + 1) (Nat.lt_succ_self _)
    rw [Nat.sub_zero] at h5
    have hx2 : x.data.toList = s.data.toList.take (toks s.size 0 s.data.toList).2.2 := hx
    rw [← h5, hx2]
    refine toksF_fuel _ _ _ _ (Nat.lt_succ_self _) ?_
    rw [List.length_take]
    omega
   rw [lex_toks, h4, if_pos rfl, hxl]

open Go.RowKit

def NwRes (w : World) (s : ByteArray) (en : Ending) (w' : World) : Prop :=
 ∃ b, en = .returned (.pointer (some ⟨b, 0, none⟩)) ∧ Hid (w.heap.size ≤ b) ∧ Hid (Dr w' b (rdEnv s) (rdTs s) 0 0) ∧ Hid (Below w.heap.size w w')

theorem dr_new {W : World} {base n c p : Nat} {a : Option Addr} {z : Sy.Env} {ts : List Lx.Tk} (hg : ∀ t ∈ ts, Sy.Gd t ∧ t.num ≤ 9223372036854775807) (hl : ts.length ≤ 3000)
  (h : W.ownsRow base 41 4 (.slice a n c) (ts ++ [(⟨0, p, [], 0⟩ : Lx.Tk)]).length (Lr.cellsOf (ts ++ [(⟨0, p, [], 0⟩ : Lx.Tk)]))) (hz : z.fin.1 = 0 → p = z.stop) (ty : TypeId) (f1 f2 : Int) (h1 : f1 = z.fin.1) (h2 : f2 = z.fin.2) :
  Dr (W.alloc (.cells #[.slice a n c, .int .i64 0, .int .i64 f1, .int .i64 f2, .int .i64 0, .int .i64 0] ty)) W.heap.size z ts 0 0 := by
 subst h1 h2
 have hn : n = ts.length + 1 := by
  rcases h.2 with ⟨_, e2⟩ | ⟨g, cap, cur, e1, _⟩
  ·simp at e2
  ·simp only [Value.slice.injEq, List.length_append, List.length_singleton] at e1
   exact e1.2.1
 obtain ⟨g, rfl, hc⟩ : ∃ g, a = some ⟨g, 0, none⟩ ∧ n ≤ c := by
  rcases h.2 with ⟨_, e2⟩ | ⟨g, cap, cur, e1, _, _, e4, _⟩
  ·simp at e2
  ·simp only [Value.slice.injEq] at e1
   exact ⟨g, e1.1, by omega⟩
 have hT : ∀ j (hj : j < (ts ++ [(⟨0, p, [], 0⟩ : Lx.Tk)]).length), TkAt W g (j * 4) (ts ++ [(⟨0, p, [], 0⟩ : Lx.Tk)])[j] := fun j hj => own_tk h j hj
 have hE := hT ts.length (by simp)
 have hgl := hE.lt
 have hh : (W.alloc (.cells #[.slice (some ⟨g, 0, none⟩) n c, .int .i64 0, .int .i64 z.fin.1, .int .i64 z.fin.2, .int .i64 0, .int .i64 0] ty)).heap[g]? = W.heap[g]? := heap_alloc_old W _ hgl
 refine ⟨hg, g, n, c, 0, Blk.new W (drVals g n c 0 z.fin 0 0) ty, hgl, by omega, hc, by omega, fun j hj => ?_, p, ?_, hz⟩
 ·have h3 := hT j (by simp; omega)
  rw [List.getElem_append_left hj] at h3
  rw [Nat.zero_add]
  exact h3.of_heap hh
 ·rw [Nat.zero_add]
  rw [List.getElem_append_right (Nat.le_refl _)] at hE
  simp only [Nat.sub_self, List.getElem_singleton] at hE
  exact hE.of_heap hh

theorem dnewReader (s : ByteArray) (w : World) (ev : Value) (hmax : s.size ≤ 140737488351232) (h2 : 2 < w.heap.size) (hv : w.cell? ⟨2, 0, none⟩ = some ev) (hev : ev = .nilIface ∨ ∃ te pe, ev = .iface te pe) :
  Calls Tryz.prog 13 #[.string s] w fun en w' => NwRes w s en w' := by
 have HT := hid (fun x W (hx : x.size ≤ 140737488351232) (hW : Below w.heap.size w W) => Lr.ltokens_any x W ev hx (Nat.lt_of_lt_of_le h2 hW.size) ((World.cell?_of_block (a := ⟨2, 0, none⟩) (hW.block 2 h2)).trans hv) hev)
 have HL := hid (rd_len s)
 have HG := hid (rd_good s)
 rcases rd_begin s with ⟨hf, hst, ha⟩ | ⟨hf, ha, hle, hcut⟩
 ·have HA := hid ha
  have HF := hid hf
  have HS := hid hst
  clear ha hf hst
  go_enter Tryz.func13, Tryz.ntmps13
  go_wp2_with (go_at_call 29; refine (HT.out _ _ hmax (Below.refl _ _)).mono ?_; rintro en w1 ⟨v, rfl, HO, HBW⟩; rw [HA.out] at HO ⊢; obtain ⟨aS, cS, hvf⟩ := own_form HO; subst hvf; have HO := hid HO; have HBW := hid HBW; dsimp only [fltVal])
  all_goals
   refine bodyPost_ret (v := .pointer (some ⟨w1.heap.size + 1, 0, none⟩)) (by simp [results, Tryz.results13, go_sem]) rfl ⟨w1.heap.size + 1, rfl, ?_, ?_, ?_⟩
   ·have := HBW.out.size
    exact Nat.le_trans this (Nat.le_succ _)
   ·have h3 := dr_new (W := w1.alloc (Obj.cells #[.int .i64 0, .int .i64 0] 27)) (z := rdEnv s) (p := s.size) HG.out HL.out (own_alloc HO.out _) (fun _ => HS.out.symm) 57 0 0 (by rw [HF.out]; rfl) (by rw [HF.out]; rfl)
    simp only [List.length_append, List.length_singleton, List.length_cons, List.length_nil] at h3
    rw [show (w1.alloc (Obj.cells #[.int .i64 0, .int .i64 0] 27)).heap.size = w1.heap.size + 1 by simp] at h3
    exact h3
   ·exact ((HBW.out.alloc HBW.out.size _).alloc (by have := HBW.out.size; simp; omega) _)
 ·have HA := hid ha
  have HC := hid (hcut (s.extract 0 (rdEnv s).fin.2) (Lr.extract0_list s _))
  have hfi : ((rdEnv s).fin.1 : Int) ≠ 0 := by omega
  have hxs : (s.extract 0 (rdEnv s).fin.2).size ≤ 140737488351232 := by simp; omega
  clear ha hcut
  go_enter Tryz.func13, Tryz.ntmps13
  go_wp2_with (go_at_call 29; first
   | (have hbw1 := HBW.out.size; go_loud (refine (HT.out (s.extract 0 (rdEnv s).fin.2) (w1.alloc (Obj.cells #[.int .i64 (rdEnv s).fin.1, .int .i64 (rdEnv s).fin.2] 27)) hxs (HBW.out.alloc HBW.out.size _)).mono ?_; rintro en w2 ⟨v2, rfl, HO2, HBW2⟩; rw [HC.out] at HO2 ⊢; obtain ⟨aR, cR, hvf2⟩ := own_form HO2; subst hvf2; have hbk := HBW2.block w1.heap.size (by simp); have HFB := hid ((Blk.new w1 [.int .i64 (rdEnv s).fin.1, .int .i64 (rdEnv s).fin.2] 27).of_heap hbk); have q0 := (HFB.out 0 _ rfl).1; have q1 := (HFB.out 1 _ rfl).1; have hsz2 := HBW2.size; simp [Nat.add_one_le_iff] at hsz2; have HO2 := hid HO2; have HBW2 := hid HBW2; clear hbk; dsimp only [fltVal]))
   | (have _ := HA; refine (HT.out s w hmax (Below.refl _ _)).mono ?_; rintro en w1 ⟨v, rfl, HO, HBW⟩; rw [HA.out] at HO ⊢; obtain ⟨aS, cS, hvf⟩ := own_form HO; subst hvf; have HO := hid HO; have HBW := hid HBW; clear HA; dsimp only [fltVal]))
  all_goals
   refine bodyPost_ret (v := .pointer (some ⟨w2.heap.size, 0, none⟩)) (by simp [results, Tryz.results13, go_sem]) rfl ⟨w2.heap.size, rfl, ?_, ?_, ?_⟩
   ·exact (by omega : w.heap.size ≤ w2.heap.size)
   ·have h3 := dr_new (W := w2) (z := rdEnv s) (p := (rdEnv s).fin.2) HG.out HL.out HO2.out (fun h => absurd h hf) 57 _ _ rfl rfl
    simp only [List.length_append, List.length_singleton, List.length_cons, List.length_nil] at h3
    exact h3
   ·exact ((HBW.out.alloc HBW.out.size _).trans (HBW2.out.mono (by simp; omega))).alloc (by omega) _
end Go.Proofs.YtoajnlhegallpaaGreatDoor
