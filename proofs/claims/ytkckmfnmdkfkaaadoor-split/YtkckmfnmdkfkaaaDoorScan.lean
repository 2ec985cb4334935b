/-
  The scan of a text, in plain words: runes never jump over a byte of ASCII; what each step of the scan leaves to be read.
-/
import Derived.Test.YtkckmfnmdkfkaaaDoorLexF
namespace Go.Proofs.YtkckmfnmdkfkaaaDoor
open Go.RowKit

theorem get_bang (s : ByteArray) (i : Nat) (h : i < s.size) : s.get! i = s[i] := by
  simp [ByteArray.get!, getElem!_pos, h]
  rfl

/-- A rune does not reach over a byte of ASCII. -/
theorem decode_nojump (s : ByteArray) (pos n : Nat) (hn : n < s.size) (hpn : pos < n) (ha : (s[n]).toNat < 128) : pos + (Utf8.decode s pos).2 ≤ n := by
  have hcont : ∀ k, Hid (pos + k ≠ n ∨ (s.get! (pos + k)).toNat / 64 ≠ 2) := by
    intro k
    by_cases e : pos + k = n
    · refine hid (.inr ?_)
      rw [e, get_bang s n hn]
      omega
    · exact hid (.inl e)
  have H1 := hcont 1
  have H2 := hcont 2
  have H3 := hcont 3
  clear hcont
  unfold Utf8.decode
  simp only []
  repeat' split
  all_goals simp_all
  all_goals
    have a1 := H1.out
    have a2 := H2.out
    have a3 := H3.out
    omega

theorem decode_asc (s : ByteArray) (pos : Nat) (h : pos < s.size) (ha : (s[pos]).toNat < 128) : Utf8.decode s pos = ((s[pos]).toNat, 1) := decode_ascii s pos h ha

/-- From place pos no rune jumps over place n. -/
def Skip (s : ByteArray) (pos n : Nat) : Prop := pos < n → (∀ q (h : q < s.size), pos ≤ q → q < n → (s[q]).toNat < 128) ∨ (∃ h : n < s.size, (s[n]).toNat = 10)

def Inv (s : ByteArray) (acc : List Lx.Tk) (pos n : Nat) : Prop :=
  n ≤ s.size ∧ acc.length ≤ n ∧ Skip s pos n ∧ Lx.appTo acc (Lx.lex s.size (max pos n) (s.data.toList.drop (max pos n))) = Lx.lex s.size 0 s.data.toList

theorem inv_start (s : ByteArray) : Inv s [] 0 0 := ⟨Nat.zero_le _, Nat.le_refl _, fun h => absurd h (by omega), by rw [Lx.appTo_nil]; rfl⟩

theorem inv_skip {s : ByteArray} {acc : List Lx.Tk} {pos n : Nat} (hi : Inv s acc pos n) (hp : pos < s.size) (h : pos < n) : Inv s acc (pos + (Utf8.decode s pos).2) n := by
  obtain ⟨h1, h2, h3, h4⟩ := hi
  have hle : pos + (Utf8.decode s pos).2 ≤ n := by
    rcases h3 h with ha | ⟨hn, hb⟩
    · rw [decode_asc s pos hp (ha pos hp (Nat.le_refl _) h)]
      show pos + 1 ≤ n
      omega
    · exact decode_nojump s pos n hn h (by omega)
  refine ⟨h1, h2, ?_, ?_⟩
  · intro _
    rcases h3 h with ha | hb
    · exact .inl (fun q hq h5 h6 => ha q hq (by omega) h6)
    · exact .inr hb
  · rw [Nat.max_eq_right (by omega)] at h4 ⊢
    exact h4

theorem inv_here {s : ByteArray} {acc : List Lx.Tk} {pos n : Nat} (hi : Inv s acc pos n) (h : n ≤ pos) : Lx.appTo acc (Lx.lex s.size pos (s.data.toList.drop pos)) = Lx.lex s.size 0 s.data.toList := by
  have := hi.2.2.2
  rwa [Nat.max_eq_left h] at this

theorem inv_blank {s : ByteArray} {acc : List Lx.Tk} {pos n : Nat} (hi : Inv s acc pos n) (hp : pos < s.size) (h : n ≤ pos) (hb : Lx.isBl s[pos] = true) : Inv s acc (pos + 1) n := by
  have h4 := inv_here hi h
  refine ⟨hi.1, hi.2.1, fun h5 => absurd h5 (by omega), ?_⟩
  rw [Nat.max_eq_left (by omega), pass_blank hp hb]
  exact h4

theorem idx_nl (l : List UInt8) : (Lib.indexByte l 10 = -1 ∧ l.dropWhile Lx.notNl = []) ∨ (∃ k : Nat, Lib.indexByte l 10 = (k : Int) ∧ (l.takeWhile Lx.notNl).length = k ∧ l.dropWhile Lx.notNl = l.drop k ∧ ∃ h : k < l.length, (l[k]).toNat = 10) := by
  induction l with
  | nil => exact .inl ⟨rfl, rfl⟩
  | cons c r ih =>
    by_cases hc : c = 10
    · subst hc
      refine .inr ⟨0, by simp [Lib.indexByte], by simp [Lx.notNl], by simp [Lx.notNl], by simp, rfl⟩
    · have hn : Lx.notNl c = true := by
        simp only [Lx.notNl, bne_iff_ne]
        intro e
        exact hc (u8_eq (n := 10) (by decide) e)
      have hb : (c == 10) = false := by simpa using hc
      rcases ih with ⟨h1, h2⟩ | ⟨k, h1, h2, h3, h4, h5⟩
      · refine .inl ⟨by simp [Lib.indexByte, hb, h1], by simp [hn, h2]⟩
      · refine .inr ⟨k + 1, ?_, by simp [hn, h2], by simp [hn, h3], by simpa using h4, by simpa using h5⟩
        have hk : ((k : Int) == -1) = false := by simp
        simp [Lib.indexByte, hb, h1, hk]

theorem rem_end {s : ByteArray} {acc : List Lx.Tk} {pos n : Nat} (hs : s.size ≤ 3000) (hi : Inv s acc pos n) (hp : pos < s.size) (h : n ≤ pos) (hb : (s[pos]).toNat = 35) (hx : Lib.indexByte (s.data.toList.drop pos) 10 = -1) :
    answer s = (0, 0, acc ++ [⟨0, s.size, [], 0⟩]) := by
  have h4 := inv_here hi h
  refine answer_end hs h4 ?_
  rw [← pass_hash hp hb]
  rcases idx_nl (s.data.toList.drop pos) with ⟨_, h2⟩ | ⟨k, h1, _⟩
  · unfold Lx.lexRem
    rw [h2, Lx.lex_nil]
  · rw [hx] at h1
    omega

theorem inv_hash {s : ByteArray} {acc : List Lx.Tk} {pos n k : Nat} (hi : Inv s acc pos n) (hp : pos < s.size) (h : n ≤ pos) (hb : (s[pos]).toNat = 35) (hx : Lib.indexByte (s.data.toList.drop pos) 10 = (k : Int)) :
    Inv s acc (pos + 1) (pos + k) := by
  have h4 := inv_here hi h
  rcases idx_nl (s.data.toList.drop pos) with ⟨h1, _⟩ | ⟨k', h1, h2, h3, h5, h6⟩
  · rw [hx] at h1
    omega
  · have hk : k' = k := by rw [hx] at h1; omega
    subst hk
    have hsz : pos + k' < s.size := by simp at h5; omega
    obtain ⟨_, e⟩ := drop_get s pos k' hsz
    have h10 : (s[pos + k']).toNat = 10 := by rw [← e]; exact h6
    have hk0 : k' ≠ 0 := by
      intro e0
      subst e0
      simp only [Nat.add_zero] at h10
      omega
    refine ⟨by omega, by have := hi.2.1; omega, fun _ => .inr ⟨hsz, h10⟩, ?_⟩
    rw [Nat.max_eq_right (by omega)]
    rw [← pass_hash hp hb] at h4
    unfold Lx.lexRem at h4
    rw [h2, h3, List.drop_drop] at h4
    exact h4

theorem takeWhile_get {p : UInt8 → Bool} : ∀ (l : List UInt8) (i : Nat) (_ : i < (l.takeWhile p).length), ∃ h2 : i < l.length, p l[i] = true := by
  intro l
  induction l with
  | nil => intro i h; simp at h
  | cons c r ih =>
    intro i h
    by_cases hc : p c = true
    · cases i with
      | zero => exact ⟨by simp, hc⟩
      | succ i =>
        simp only [List.takeWhile_cons, hc, if_true, List.length_cons] at h
        obtain ⟨h2, h3⟩ := ih i (by omega)
        exact ⟨by simpa using h2, by simpa using h3⟩
    · simp [hc] at h

theorem tok_ascii {pos : Nat} {c : UInt8} {r : List UInt8} {t : Lx.Tk} {n : Nat} (h : Lx.tokAt pos (c :: r) = .ok (t, n)) : ∀ i (hi : i < (c :: r).length), i < n → ((c :: r)[i]).toNat < 128 := by
  intro i hi hin
  cases h1 : Lx.isDig c with
  | true =>
    rw [Lx.tokAt_dig pos c r h1] at h
    by_cases h2 : Lx.okNum ((c :: r).takeWhile Lx.isDig) = true
    · rw [if_pos h2] at h
      simp only [Except.ok.injEq, Prod.mk.injEq] at h
      obtain ⟨_, hp⟩ := takeWhile_get (c :: r) i (by rw [h.2]; exact hin)
      have := (isDig_iff _).1 hp
      omega
    · rw [if_neg h2] at h; cases h
  | false =>
    cases h2 : Lx.isLet c with
    | true =>
      rw [Lx.tokAt_let pos c r h1 h2] at h
      by_cases h3 : ((c :: r).takeWhile Lx.isNm).length ≤ 20
      · rw [if_pos h3] at h
        simp only [Except.ok.injEq, Prod.mk.injEq] at h
        obtain ⟨_, hp⟩ := takeWhile_get (c :: r) i (by rw [h.2]; exact hin)
        simp only [Lx.isNm, Bool.or_eq_true] at hp
        rcases hp with hp | hp
        · have := (isLet_iff _).1 hp; omega
        · have := (isDig_iff _).1 hp; omega
      · rw [if_neg h3] at h; cases h
    | false =>
      cases h3 : Lx.isSg c with
      | false => rw [Lx.tokAt_no pos c r h1 h2 h3] at h; cases h
      | true =>
        rw [Lx.tokAt_sg pos c r h1 h2 h3] at h
        simp only [Except.ok.injEq, Prod.mk.injEq] at h
        have hc : c.toNat < 128 := by
          have hall : ∀ x ∈ Lx.sigBytes, x.toNat < 128 := by decide
          exact hall c (List.contains_iff_mem.1 h3)
        cases i with
        | zero => exact hc
        | succ i =>
          have hn2 : Lx.signLen (c :: r) = 2 := by
            have := h.2
            unfold Lx.signLen at this ⊢
            by_cases h4 : Lx.twos.contains ((c :: r).take 2) = true
            · rw [if_pos h4]
            · rw [if_neg h4] at this; omega
          have hi0 : i = 0 := by omega
          subst hi0
          cases r with
          | nil => simp at hi
          | cons d r =>
            unfold Lx.signLen at hn2
            by_cases h4 : Lx.twos.contains ((c :: d :: r).take 2) = true
            · have hall : ∀ x ∈ Lx.twos, ∀ y ∈ x, y.toNat < 128 := by decide
              exact hall _ (List.contains_iff_mem.1 h4) d (by simp)
            · rw [if_neg h4] at hn2; omega

theorem inv_tok {s : ByteArray} {acc : List Lx.Tk} {pos n m : Nat} {t : Lx.Tk} (hi : Inv s acc pos n) (hp : pos < s.size) (h : n ≤ pos) (hb : Lx.isBl s[pos] = false) (hh : (s[pos]).toNat ≠ 35) (ht : Lx.tokAt pos (s.data.toList.drop pos) = .ok (t, m)) :
    Inv s (acc ++ [t]) (pos + 1) (pos + m) := by
  have h4 := inv_here hi h
  have hl := step_len hp ht
  have hasc := ht
  rw [drop_cons s pos hp] at hasc
  refine ⟨hl.2, by have := hi.2.1; simp; omega, ?_, ?_⟩
  · intro _
    left
    intro q hq h5 h6
    have hqi : q = pos + (q - pos) := by omega
    obtain ⟨h7, e⟩ := drop_get s pos (q - pos) (by omega)
    have e2 : s[pos + (q - pos)]'(by omega) = s[q] := by congr 1; omega
    rw [← e2, ← e]
    have h8 := tok_ascii hasc (q - pos) (by rw [← drop_cons s pos hp]; exact h7) (by omega)
    simp only [← drop_cons s pos hp] at h8
    exact h8
  · rw [Nat.max_eq_right (by omega)]
    have e : Lx.lex s.size pos (s.data.toList.drop pos) = Lx.consTo t (Lx.lex s.size (pos + m) (s.data.toList.drop (pos + m))) :=
      step_ok (k := pos) (j := pos) ⟨Nat.le_refl _, by omega, rfl, fun _ => ⟨hb, hh⟩⟩ hp ht
    rw [e, Lx.appTo_cons] at h4
    exact h4

theorem inv_bad {s : ByteArray} {acc : List Lx.Tk} {pos n k p : Nat} (hs : s.size ≤ 3000) (hi : Inv s acc pos n) (hp : pos < s.size) (h : n ≤ pos) (hb : Lx.isBl s[pos] = false) (hh : (s[pos]).toNat ≠ 35) (ht : Lx.tokAt pos (s.data.toList.drop pos) = .error (k, p)) :
    answer s = (k, p, []) :=
  answer_bad hs (inv_here hi h) (step_err (k := pos) (j := pos) ⟨Nat.le_refl _, by omega, rfl, fun _ => ⟨hb, hh⟩⟩ hp ht)

theorem inv_end {s : ByteArray} {acc : List Lx.Tk} {pos n : Nat} (hs : s.size ≤ 3000) (hi : Inv s acc pos n) (hp : ¬ pos < s.size) : answer s = (0, 0, acc ++ [⟨0, s.size, [], 0⟩]) := by
  have h4 := hi.2.2.2
  rw [drop_end s _ (by omega), Lx.lex_nil] at h4
  exact answer_ok hs h4.symm

/-- A token's place is where it is looked for. -/
theorem tok_shift {l : List UInt8} {t : Lx.Tk} {n : Nat} (p : Nat) (h : Lx.tokAt 0 l = .ok (t, n)) : Lx.tokAt p l = .ok (⟨t.kind, p, t.text, t.num⟩, n) := by
  unfold Lx.tokAt at h ⊢
  by_cases h1 : (l.head?.map Lx.isDig).getD false = true
  · rw [if_pos h1] at h ⊢
    by_cases h2 : Lx.okNum (l.takeWhile Lx.isDig) = true
    · rw [if_pos h2] at h ⊢
      simp only [Except.ok.injEq, Prod.mk.injEq] at h ⊢
      rw [← h.1, ← h.2]; exact ⟨rfl, rfl⟩
    · rw [if_neg h2] at h; cases h
  · rw [if_neg h1] at h ⊢
    by_cases h2 : (l.head?.map Lx.isLet).getD false = true
    · rw [if_pos h2] at h ⊢
      by_cases h3 : (l.takeWhile Lx.isNm).length ≤ 20
      · rw [if_pos h3] at h ⊢
        simp only [Except.ok.injEq, Prod.mk.injEq] at h ⊢
        rw [← h.1, ← h.2]; exact ⟨rfl, rfl⟩
      · rw [if_neg h3] at h; cases h
    · rw [if_neg h2] at h ⊢
      by_cases h3 : (l.head?.map Lx.isSg).getD false = true
      · rw [if_pos h3] at h ⊢
        simp only [Except.ok.injEq, Prod.mk.injEq] at h ⊢
        rw [← h.1, ← h.2]; exact ⟨rfl, rfl⟩
      · rw [if_neg h3] at h; cases h
theorem tok_shift_bad {l : List UInt8} {k : Nat} (p : Nat) (h : Lx.tokAt 0 l = .error (k, 0)) : Lx.tokAt p l = .error (k, p) := by
  unfold Lx.tokAt at h ⊢
  by_cases h1 : (l.head?.map Lx.isDig).getD false = true
  · rw [if_pos h1] at h ⊢
    by_cases h2 : Lx.okNum (l.takeWhile Lx.isDig) = true
    · rw [if_pos h2] at h; cases h
    · rw [if_neg h2] at h ⊢; cases h; rfl
  · rw [if_neg h1] at h ⊢
    by_cases h2 : (l.head?.map Lx.isLet).getD false = true
    · rw [if_pos h2] at h ⊢
      by_cases h3 : (l.takeWhile Lx.isNm).length ≤ 20
      · rw [if_pos h3] at h; cases h
      · rw [if_neg h3] at h ⊢; cases h; rfl
    · rw [if_neg h2] at h ⊢
      by_cases h3 : (l.head?.map Lx.isSg).getD false = true
      · rw [if_pos h3] at h; cases h
      · rw [if_neg h3] at h ⊢; cases h; rfl

/-- A byte of no class begins no token. -/
theorem tok_none {s : ByteArray} {pos : Nat} (hp : pos < s.size) (h1 : Lx.isDig s[pos] = false) (h2 : Lx.isLet s[pos] = false) (h3 : Lx.isSg s[pos] = false) : Lx.tokAt pos (s.data.toList.drop pos) = .error (2, pos) := by
  rw [drop_cons s pos hp]
  exact Lx.tokAt_no pos _ _ h1 h2 h3
end Go.Proofs.YtkckmfnmdkfkaaaDoor
