/-
  In plain words: what tokens say, with a blank behind each, has these tokens again; two texts with a byte 10 between them have the tokens of both; places aside.
-/
import Derived.Test.YtkckmfnmdkfkaaaDoorScan
namespace Go.Proofs.YtkckmfnmdkfkaaaDoor
open Go.RowKit

def strip (t : Lx.Tk) : Nat × List UInt8 × Nat := (t.kind, t.text, t.num)

theorem tok_move {l : List UInt8} {t : Lx.Tk} {n q : Nat} (p : Nat) (h : Lx.tokAt q l = .ok (t, n)) : Lx.tokAt p l = .ok (⟨t.kind, p, t.text, t.num⟩, n) := by
  unfold Lx.tokAt at h ⊢
  by_cases h1 : (l.head?.map Lx.isDig).getD false = true
  · rw [if_pos h1] at h ⊢
    by_cases h2 : Lx.okNum (l.takeWhile Lx.isDig) = true
    · rw [if_pos h2] at h ⊢
      simp only [Except.ok.injEq, Prod.mk.injEq] at h ⊢
      rw [← h.1, ← h.2]; exact ⟨rfl, rfl⟩
    · rw [if_neg h2] at h; cases h
  · rw [if_neg h1] at h ⊢
    by_cases h2 : (l.head?.map Lx.isLet).getD false = true
    · rw [if_pos h2] at h ⊢
      by_cases h3 : (l.takeWhile Lx.isNm).length ≤ 20
      · rw [if_pos h3] at h ⊢
        simp only [Except.ok.injEq, Prod.mk.injEq] at h ⊢
        rw [← h.1, ← h.2]; exact ⟨rfl, rfl⟩
      · rw [if_neg h3] at h; cases h
    · rw [if_neg h2] at h ⊢
      by_cases h3 : (l.head?.map Lx.isSg).getD false = true
      · rw [if_pos h3] at h ⊢
        simp only [Except.ok.injEq, Prod.mk.injEq] at h ⊢
        rw [← h.1, ← h.2]; exact ⟨rfl, rfl⟩
      · rw [if_neg h3] at h; cases h

theorem lexF_move : ∀ (f : Nat) (N N' pos pos' : Nat) (l : List UInt8) (ts : List Lx.Tk), Lx.lexF N f pos l = .ok ts → ∃ us, Lx.lexF N' f pos' l = .ok us ∧ us.map strip = ts.map strip := by
  intro f
  induction f with
  | zero => intro N N' pos pos' l ts h; simp [Lx.lexF] at h
  | succ f ih =>
    intro N N' pos pos' l ts h
    cases l with
    | nil =>
      simp only [Lx.lexF, Except.ok.injEq] at h
      exact ⟨_, rfl, by rw [← h]; rfl⟩
    | cons c r =>
      rw [Lx.lexF] at h ⊢
      by_cases h1 : Lx.isBl c = true
      · rw [if_pos h1] at h ⊢
        exact ih _ _ _ _ _ _ h
      · rw [if_neg h1] at h ⊢
        by_cases h2 : c.toNat = 35
        · rw [if_pos h2] at h ⊢
          exact ih _ _ _ _ _ _ h
        · rw [if_neg h2] at h ⊢
          cases hT : Lx.tokAt pos (c :: r) with
          | error e => rw [hT] at h; cases h
          | ok x =>
            obtain ⟨t, n⟩ := x
            rw [hT] at h
            rw [tok_move pos' hT]
            simp only [] at h ⊢
            cases hR : Lx.lexF N f (pos + n) ((c :: r).drop n) with
            | error e => rw [hR] at h; cases h
            | ok us =>
              rw [hR] at h
              simp only [Lx.consTo, Except.ok.injEq] at h
              obtain ⟨vs, hv, hs⟩ := ih N N' (pos + n) (pos' + n) _ _ hR
              rw [hv]
              exact ⟨_, rfl, by rw [← h]; simp [strip, hs]⟩

theorem lex_move {N pos : Nat} (N' pos' : Nat) {l : List UInt8} {ts : List Lx.Tk} (h : Lx.lex N pos l = .ok ts) : ∃ us, Lx.lex N' pos' l = .ok us ∧ us.map strip = ts.map strip := lexF_move _ _ _ _ _ _ _ h

/-- A token that a text has. -/
def Good (t : Lx.Tk) : Prop := ∃ c r n, Lx.tokAt 0 (c :: r) = .ok (⟨t.kind, 0, t.text, t.num⟩, n) ∧ Lx.isBl c = false ∧ c.toNat ≠ 35

theorem lexF_good : ∀ (f : Nat) (N pos : Nat) (l : List UInt8) (ts : List Lx.Tk), Lx.lexF N f pos l = .ok ts → ∃ body, ts = body ++ [⟨0, N, [], 0⟩] ∧ ∀ t ∈ body, Good t := by
  intro f
  induction f with
  | zero => intro N pos l ts h; simp [Lx.lexF] at h
  | succ f ih =>
    intro N pos l ts h
    cases l with
    | nil =>
      simp only [Lx.lexF, Except.ok.injEq] at h
      exact ⟨[], by rw [← h]; rfl, fun t ht => by cases ht⟩
    | cons c r =>
      rw [Lx.lexF] at h
      by_cases h1 : Lx.isBl c = true
      · rw [if_pos h1] at h
        exact ih _ _ _ _ h
      · rw [if_neg h1] at h
        by_cases h2 : c.toNat = 35
        · rw [if_pos h2] at h
          exact ih _ _ _ _ h
        · rw [if_neg h2] at h
          cases hT : Lx.tokAt pos (c :: r) with
          | error e => rw [hT] at h; cases h
          | ok x =>
            obtain ⟨t, n⟩ := x
            rw [hT] at h
            simp only [] at h
            cases hR : Lx.lexF N f (pos + n) ((c :: r).drop n) with
            | error e => rw [hR] at h; cases h
            | ok us =>
              rw [hR] at h
              simp only [Lx.consTo, Except.ok.injEq] at h
              obtain ⟨body, hb, hg⟩ := ih _ _ _ _ hR
              refine ⟨t :: body, by rw [← h, hb]; rfl, ?_⟩
              intro x hx
              rcases List.mem_cons.1 hx with rfl | hx
              · exact ⟨c, r, n, tok_move 0 hT, by simpa using h1, h2⟩
              · exact hg x hx

theorem takeWhile_app {p : UInt8 → Bool} {c : UInt8} (hc : p c = false) : ∀ (l b : List UInt8), (l ++ c :: b).takeWhile p = l.takeWhile p := by
  intro l b
  induction l with
  | nil => simp [hc]
  | cons a l ih =>
    by_cases ha : p a = true
    · simp [ha, ih]
    · simp [ha]

theorem take2_app {c x : UInt8} (hx : ∀ a, Lx.twos.contains [a, x] = false) (l b : List UInt8) : Lx.signLen ((c :: l) ++ x :: b) = Lx.signLen (c :: l) := by
  cases l with
  | nil =>
    unfold Lx.signLen
    rw [if_neg (by simp only [List.cons_append, List.nil_append, List.take_succ_cons, List.take_zero]; rw [hx c]; simp)]
    rw [if_neg (by simp [Lx.twos])]
  | cons d l => simp [Lx.signLen]

theorem tok_app {c x : UInt8} {r b : List UInt8} {q n : Nat} {t : Lx.Tk} (h1 : Lx.isDig x = false) (h2 : Lx.isNm x = false) (h3 : ∀ a, Lx.twos.contains [a, x] = false) (h : Lx.tokAt q (c :: r) = .ok (t, n)) :
    Lx.tokAt q ((c :: r) ++ x :: b) = .ok (t, n) := by
  have e1 := takeWhile_app h1 (c :: r) b
  have e2 := takeWhile_app h2 (c :: r) b
  have e3 := take2_app (c := c) h3 r b
  have hp := Lx.tokAt_pos h
  rw [List.cons_append] at e1 e2 e3 ⊢
  cases hd : Lx.isDig c with
  | true =>
    rw [Lx.tokAt_dig q c _ hd] at h ⊢
    rw [e1]; exact h
  | false =>
    cases hl : Lx.isLet c with
    | true =>
      rw [Lx.tokAt_let q c _ hd hl] at h ⊢
      rw [e2]; exact h
    | false =>
      cases hs : Lx.isSg c with
      | false => rw [Lx.tokAt_no q c _ hd hl hs] at h; cases h
      | true =>
        rw [Lx.tokAt_sg q c _ hd hl hs] at h ⊢
        simp only [Except.ok.injEq, Prod.mk.injEq] at h
        rw [e3, h.2, ← h.1, h.2]
        have : (c :: (r ++ x :: b)).take n = (c :: r).take n := by
          rw [← List.cons_append, List.take_append_of_le_length hp.2]
        rw [this]

theorem nl_facts : Lx.isDig 10 = false ∧ Lx.isNm 10 = false ∧ (∀ a, Lx.twos.contains [a, 10] = false) := by
  refine ⟨by decide, by decide, fun a => ?_⟩
  simp [Lx.twos]
theorem sp_facts : Lx.isDig 32 = false ∧ Lx.isNm 32 = false ∧ (∀ a, Lx.twos.contains [a, 32] = false) := by
  refine ⟨by decide, by decide, fun a => ?_⟩
  simp [Lx.twos]

theorem dropWhile_app (l b : List UInt8) : (l ++ 10 :: b).dropWhile Lx.notNl = l.dropWhile Lx.notNl ++ 10 :: b := by
  induction l with
  | nil => simp [show Lx.notNl 10 = false by decide]
  | cons a l ih =>
    by_cases ha : Lx.notNl a = true
    · simp [ha, ih]
    · simp [ha]

/-- Two texts with a byte 10 between. -/
theorem lex_join : ∀ (f : Nat) (N pos : Nat) (a : List UInt8) (ts : List Lx.Tk), Lx.lexF N f pos a = .ok ts → ∀ (b : List UInt8) (M q : Nat) (us : List Lx.Tk), Lx.lex M q b = .ok us →
    ∀ (K p : Nat), ∃ ks, Lx.lex K p (a ++ 10 :: b) = .ok ks ∧ ks.map strip = (ts.dropLast).map strip ++ us.map strip := by
  intro f
  induction f with
  | zero => intro N pos a ts h; simp [Lx.lexF] at h
  | succ f ih =>
    intro N pos a ts h b M q us hu K p
    cases a with
    | nil =>
      simp only [Lx.lexF, Except.ok.injEq] at h
      rw [List.nil_append, Lx.lex_blank _ _ _ _ (by decide)]
      obtain ⟨vs, hv, hs⟩ := lex_move K (p + 1) hu
      exact ⟨vs, hv, by rw [← h, hs]; rfl⟩
    | cons c r =>
      rw [Lx.lexF] at h
      by_cases h1 : Lx.isBl c = true
      · rw [if_pos h1] at h
        rw [List.cons_append, Lx.lex_blank _ _ _ _ h1]
        exact ih _ _ _ _ h b M q us hu K (p + 1)
      · rw [if_neg h1] at h
        by_cases h2 : c.toNat = 35
        · rw [if_pos h2] at h
          rw [List.cons_append, Lx.lex_hash _ _ _ _ h2]
          unfold Lx.lexRem
          rw [← List.cons_append, dropWhile_app]
          exact ih _ _ _ _ h b M q us hu K _
        · rw [if_neg h2] at h
          cases hT : Lx.tokAt pos (c :: r) with
          | error e => rw [hT] at h; cases h
          | ok x =>
            obtain ⟨t, n⟩ := x
            rw [hT] at h
            simp only [] at h
            have hp := Lx.tokAt_pos hT
            cases hR : Lx.lexF N f (pos + n) ((c :: r).drop n) with
            | error e => rw [hR] at h; cases h
            | ok vs =>
              rw [hR] at h
              simp only [Lx.consTo, Except.ok.injEq] at h
              obtain ⟨n1, n2, n3⟩ := nl_facts
              have hT2 := tok_app (b := b) n1 n2 n3 (tok_move p hT)
              obtain ⟨ks, hk, hs⟩ := ih _ _ _ _ hR b M q us hu K (p + n)
              have hd : ((c :: r) ++ 10 :: b).drop n = (c :: r).drop n ++ 10 :: b := List.drop_append_of_le_length hp.2
              rw [List.cons_append] at hT2 hd
              rw [List.cons_append, Lx.lex_tok _ _ _ _ (by simpa using h1) h2 hT2, hd, hk]
              refine ⟨_, rfl, ?_⟩
              obtain ⟨body, hb, _⟩ := lexF_good _ _ _ _ _ hR
              subst hb
              have e : (t :: (body ++ [(⟨0, N, [], 0⟩ : Lx.Tk)])).dropLast = t :: body := by rw [← List.cons_append, List.dropLast_concat]
              rw [← h, e, List.map_cons, hs, List.dropLast_concat]
              simp [strip]

/- What a token says. -/
def Df : Nat → Nat → List UInt8
  | 0, _ => []
  | f + 1, n => if n < 10 then [UInt8.ofNat (48 + n)] else Df f (n / 10) ++ [UInt8.ofNat (48 + n % 10)]
theorem Df_fuel : ∀ (f g n : Nat), n < f → n < g → Df f n = Df g n := by
  intro f
  induction f with
  | zero => intro g n h; omega
  | succ f ih =>
    intro g n h1 h2
    obtain ⟨g, rfl⟩ : ∃ k, g = k + 1 := ⟨g - 1, by omega⟩
    unfold Df
    by_cases h : n < 10
    · rw [if_pos h, if_pos h]
    · rw [if_neg h, if_neg h, ih g (n / 10) (by omega) (by omega)]
/-- The digits of a number. -/
def digs (n : Nat) : List UInt8 := Df (n + 1) n
theorem digs_small {n : Nat} (h : n < 10) : digs n = [UInt8.ofNat (48 + n)] := by unfold digs Df; rw [if_pos h]
theorem digs_great {n : Nat} (h : ¬ n < 10) : digs n = digs (n / 10) ++ [UInt8.ofNat (48 + n % 10)] := by
  unfold digs
  rw [Df, if_neg h, Df_fuel n (n / 10 + 1) (n / 10) (by omega) (by omega)]
theorem dig_byte {k : Nat} (h : k < 10) : (UInt8.ofNat (48 + k)).toNat = 48 + k := by rw [UInt8.toNat_ofNat']; omega
theorem digs_all : ∀ (m n : Nat), n < m → (∀ c ∈ digs n, Lx.isDig c = true) ∧ Lx.numVal (digs n) = n ∧ digs n ≠ [] ∧ (1 ≤ n → (digs n).head? ≠ some 48) := by
  intro m
  induction m with
  | zero => intro n h; omega
  | succ m ih =>
    intro n h
    by_cases hs : n < 10
    · rw [digs_small hs]
      have hb := dig_byte hs
      refine ⟨?_, ?_, by simp, ?_⟩
      · intro c hc
        simp only [List.mem_singleton] at hc
        rw [hc, isDig_iff, hb]; omega
      · simp only [Lx.numVal, List.foldl_cons, List.foldl_nil, hb]; omega
      · intro h1 e
        simp only [List.head?_cons, Option.some.injEq] at e
        have := congrArg UInt8.toNat e
        rw [hb] at this
        have h48 : (48 : UInt8).toNat = 48 := rfl
        omega
    · obtain ⟨i1, i2, i3, i4⟩ := ih (n / 10) (by omega)
      have hb := dig_byte (show n % 10 < 10 by omega)
      rw [digs_great hs]
      refine ⟨?_, ?_, by simp, ?_⟩
      · intro c hc
        rcases List.mem_append.1 hc with hc | hc
        · exact i1 c hc
        · simp only [List.mem_singleton] at hc
          rw [hc, isDig_iff, hb]; omega
      · rw [numVal_snoc, i2, hb]; omega
      · intro _
        have i5 := i4 (by omega)
        cases hq : digs (n / 10) with
        | nil => exact absurd hq i3
        | cons x y =>
          rw [hq] at i5
          simpa using i5
theorem digs_len : ∀ (k n : Nat), n < 10 ^ (k + 1) → (digs n).length ≤ k + 1 := by
  intro k
  induction k with
  | zero => intro n h; rw [digs_small (by omega)]; simp
  | succ k ih =>
    intro n h
    by_cases hs : n < 10
    · rw [digs_small hs]; simp
    · rw [digs_great hs]
      have h2 : n / 10 < 10 ^ (k + 1) := by
        rw [Nat.div_lt_iff_lt_mul (by omega)]
        rw [Nat.pow_succ] at h
        exact h
      have := ih (n / 10) h2
      simp; omega
theorem digs_ok {n : Nat} (h : n ≤ 9223372036854775807) : Lx.okNum (digs n) = true := by
  obtain ⟨_, h2, h3, h4⟩ := digs_all (n + 1) n (by omega)
  unfold Lx.okNum
  rw [h2, decide_eq_true h, Bool.and_true]
  by_cases hs : n < 10
  · rw [digs_small hs]; rfl
  · have h5 : ((digs n).head? == some 48) = false := by
      rw [beq_eq_false_iff_ne]
      exact h4 (by omega)
    rw [h5, Bool.and_false]; rfl

def saidOf (t : Lx.Tk) : List UInt8 := if t.kind = 1 then digs t.num else t.text

theorem takeWhile_all {p : UInt8 → Bool} : ∀ (l : List UInt8), (∀ c ∈ l, p c = true) → l.takeWhile p = l := by
  intro l
  induction l with
  | nil => intro _; rfl
  | cons a l ih =>
    intro h
    rw [List.takeWhile_cons, if_pos (h a (List.mem_cons_self ..)), ih (fun c hc => h c (List.mem_cons_of_mem _ hc))]
theorem takeWhile_mem {p : UInt8 → Bool} {l : List UInt8} {c : UInt8} (h : c ∈ l.takeWhile p) : p c = true := List.all_eq_true.1 List.all_takeWhile c h

/-- What a token says is that token. -/
theorem said_self {t : Lx.Tk} (h : Good t) : ∃ c r, saidOf t = c :: r ∧ Lx.isBl c = false ∧ c.toNat ≠ 35 ∧ Lx.tokAt 0 (c :: r) = .ok (⟨t.kind, 0, t.text, t.num⟩, (c :: r).length) ∧ (c :: r).length ≤ 20 ∧ 1 ≤ t.kind ∧ t.kind ≤ 4 := by
  obtain ⟨c, r, n, hT, hb, hh⟩ := h
  have hk := tok_kind hT
  simp only [] at hk
  cases hd : Lx.isDig c with
  | true =>
    rw [Lx.tokAt_dig 0 c r hd] at hT
    by_cases ho : Lx.okNum ((c :: r).takeWhile Lx.isDig) = true
    · rw [if_pos ho] at hT
      simp only [Except.ok.injEq, Prod.mk.injEq, Lx.Tk.mk.injEq] at hT
      obtain ⟨⟨k1, _, k3, k4⟩, _⟩ := hT
      have hmax : t.num ≤ 9223372036854775807 := by
        unfold Lx.okNum at ho
        rw [Bool.and_eq_true] at ho
        have := of_decide_eq_true ho.2
        rw [← k4]; exact this
      obtain ⟨a1, a2, a3, _⟩ := digs_all (t.num + 1) t.num (by omega)
      have hs : saidOf t = digs t.num := by unfold saidOf; rw [if_pos k1.symm]
      rw [hs]
      have hlen := digs_len 19 t.num (by omega)
      have hok := digs_ok hmax
      cases hD : digs t.num with
      | nil => exact absurd hD a3
      | cons x y =>
        rw [hD] at a1 a2 hlen hok
        have hx := a1 x (List.mem_cons_self ..)
        have hxn := (isDig_iff x).1 hx
        refine ⟨x, y, rfl, by simp [Lx.isBl]; omega, by omega, ?_, by omega, hk⟩
        rw [Lx.tokAt_dig 0 x y hx, takeWhile_all _ a1, if_pos hok, a2, ← k1, ← k3]
    · rw [if_neg ho] at hT; cases hT
  | false =>
    cases hl : Lx.isLet c with
    | true =>
      rw [Lx.tokAt_let 0 c r hd hl] at hT
      by_cases ho : ((c :: r).takeWhile Lx.isNm).length ≤ 20
      · rw [if_pos ho] at hT
        simp only [Except.ok.injEq, Prod.mk.injEq, Lx.Tk.mk.injEq] at hT
        obtain ⟨⟨k1, _, k3, k4⟩, _⟩ := hT
        have hne : t.kind ≠ 1 := by
          rw [← k1]
          by_cases hw : Lx.isWd ((c :: r).takeWhile Lx.isNm) = true <;> simp [hw]
        have hs : saidOf t = (c :: r).takeWhile Lx.isNm := by unfold saidOf; rw [if_neg hne, k3]
        have hc : Lx.isNm c = true := by simp [Lx.isNm, hl]
        rw [hs]
        have hall : ∀ x ∈ (c :: r).takeWhile Lx.isNm, Lx.isNm x = true := fun x hx => takeWhile_mem hx
        rw [List.takeWhile_cons, if_pos hc] at hall ho k1 k3 ⊢
        refine ⟨c, _, rfl, hb, hh, ?_, ho, hk⟩
        rw [Lx.tokAt_let 0 c _ hd hl, takeWhile_all _ hall, if_pos ho, k1, k3, ← k4]
      · rw [if_neg ho] at hT; cases hT
    | false =>
      cases hg : Lx.isSg c with
      | false => rw [Lx.tokAt_no 0 c r hd hl hg] at hT; cases hT
      | true =>
        rw [Lx.tokAt_sg 0 c r hd hl hg] at hT
        simp only [Except.ok.injEq, Prod.mk.injEq, Lx.Tk.mk.injEq] at hT
        obtain ⟨⟨k1, _, k3, k4⟩, _⟩ := hT
        have hs : saidOf t = (c :: r).take (Lx.signLen (c :: r)) := by unfold saidOf; rw [if_neg (by omega), k3]
        rw [hs]
        by_cases h2 : Lx.twos.contains ((c :: r).take 2) = true
        · have hn : Lx.signLen (c :: r) = 2 := by unfold Lx.signLen; rw [if_pos h2]
          rw [hn] at k3 ⊢
          cases r with
          | nil => simp [Lx.twos] at h2
          | cons d r =>
            have h2' : Lx.twos.contains [c, d] = true := by simpa using h2
            refine ⟨c, [d], by simp, hb, hh, ?_, by simp, hk⟩
            have hn2 : Lx.signLen [c, d] = 2 := by unfold Lx.signLen; rw [show List.take 2 [c, d] = [c, d] from rfl, if_pos h2']
            rw [Lx.tokAt_sg 0 c _ hd hl hg, hn2, ← k1, ← k3, ← k4]
            rfl
        · have hn : Lx.signLen (c :: r) = 1 := by unfold Lx.signLen; rw [if_neg h2]
          rw [hn] at k3 ⊢
          refine ⟨c, [], by simp, hb, hh, ?_, by simp, hk⟩
          have hn2 : Lx.signLen [c] = 1 := by unfold Lx.signLen; rw [if_neg (by simp [Lx.twos])]
          rw [Lx.tokAt_sg 0 c _ hd hl hg, hn2, ← k1, ← k3, ← k4]
          rfl

/-- What tokens say, a blank behind each. -/
def saidAll (ts : List Lx.Tk) : List UInt8 := ts.flatMap fun t => saidOf t ++ [32]

theorem lex_said : ∀ (ts : List Lx.Tk), (∀ t ∈ ts, Good t) → ∀ (N p : Nat), ∃ ks, Lx.lex N p (saidAll ts) = .ok ks ∧ ks.map strip = ts.map strip ++ [(0, [], 0)] := by
  intro ts
  induction ts with
  | nil => intro _ N p; exact ⟨_, Lx.lex_nil N p, rfl⟩
  | cons t ts ih =>
    intro hg N p
    obtain ⟨c, r, hs, hb, hh, hT, _, _⟩ := said_self (hg t (List.mem_cons_self ..))
    have e : saidAll (t :: ts) = (c :: r) ++ 32 :: saidAll ts := by simp [saidAll, hs]
    obtain ⟨s1, s2, s3⟩ := sp_facts
    have hT2 := tok_app (b := saidAll ts) s1 s2 s3 (tok_move p hT)
    obtain ⟨ks, hk, hm⟩ := ih (fun x hx => hg x (List.mem_cons_of_mem _ hx)) N (p + (c :: r).length + 1)
    rw [e]
    rw [List.cons_append] at hT2 ⊢
    rw [Lx.lex_tok _ _ _ _ hb hh hT2, ← List.cons_append, List.drop_left, Lx.lex_blank _ _ _ _ (by decide), hk]
    exact ⟨_, rfl, by simp [strip, hm]⟩

theorem said_len : ∀ (ts : List Lx.Tk), (∀ t ∈ ts, Good t) → (saidAll ts).length ≤ 21 * ts.length := by
  intro ts
  induction ts with
  | nil => intro _; simp [saidAll]
  | cons t ts ih =>
    intro hg
    obtain ⟨c, r, hs, _, _, _, hl, _⟩ := said_self (hg t (List.mem_cons_self ..))
    have := ih (fun x hx => hg x (List.mem_cons_of_mem _ hx))
    have e : saidAll (t :: ts) = (c :: r) ++ 32 :: saidAll ts := by simp [saidAll, hs]
    rw [e]
    simp at hl this ⊢
    omega
end Go.Proofs.YtkckmfnmdkfkaaaDoor
