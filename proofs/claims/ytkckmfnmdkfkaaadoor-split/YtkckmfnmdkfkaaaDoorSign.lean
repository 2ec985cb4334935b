/-
  Signs, in plain words: which of the twenty a list begins with, and that it is the token there.
-/
import Derived.Test.YtkckmfnmdkfkaaaDoorRefB
namespace Go.Proofs.YtkckmfnmdkfkaaaDoor
open Go.RowKit

def Begins (l : List UInt8) (q : Nat) : Prop := l.take (signList.getD q []).length = signList.getD q []

theorem signLen_one {l : List UInt8} (hn : ∀ q, q < 4 → ¬ Begins l q) : Lx.signLen l = 1 := by
  have h0 := hn 0 (by omega)
  have h1 := hn 1 (by omega)
  have h2 := hn 2 (by omega)
  have h3 := hn 3 (by omega)
  simp only [Begins, signList, List.getD_cons_zero, List.getD_cons_succ, List.length_cons, List.length_nil] at h0 h1 h2 h3
  unfold Lx.signLen
  rw [if_neg]
  simp only [Lx.twos, List.contains_iff_mem, List.mem_cons, List.not_mem_nil, or_false, not_or]
  exact ⟨h0, h1, h2, h3⟩

theorem signLen_two {l : List UInt8} {q : Nat} (hq : q < 4) (h : Begins l q) : Lx.signLen l = 2 := by
  have hh : l.take 2 = signList.getD q [] := by
    rcases (show q = 0 ∨ q = 1 ∨ q = 2 ∨ q = 3 by omega) with rfl | rfl | rfl | rfl <;> exact h
  unfold Lx.signLen
  rw [if_pos]
  rw [hh]
  rcases (show q = 0 ∨ q = 1 ∨ q = 2 ∨ q = 3 by omega) with rfl | rfl | rfl | rfl <;> decide

theorem begins_sg {c : UInt8} {r : List UInt8} {q : Nat} (hq : q < 20) (h : Begins (c :: r) q) : Lx.isSg c = true := by
  have hc : some c = (signList.getD q []).head? := by
    rcases (show q = 0 ∨ q = 1 ∨ q = 2 ∨ q = 3 ∨ q = 4 ∨ q = 5 ∨ q = 6 ∨ q = 7 ∨ q = 8 ∨ q = 9 ∨ q = 10 ∨ q = 11 ∨ q = 12 ∨ q = 13 ∨ q = 14 ∨ q = 15 ∨ q = 16 ∨ q = 17 ∨ q = 18 ∨ q = 19 by omega)
      with rfl | rfl | rfl | rfl | rfl | rfl | rfl | rfl | rfl | rfl | rfl | rfl | rfl | rfl | rfl | rfl | rfl | rfl | rfl | rfl
    all_goals
      simp only [Begins, signList, List.getD_cons_zero, List.getD_cons_succ, List.length_cons, List.length_nil, List.take_succ_cons, List.cons.injEq] at h
      simp [signList, h.1]
  have hall : ∀ q, q < 20 → (signList.getD q []).head?.map Lx.isSg = some true := by decide
  have h2 := hall q hq
  rw [← hc] at h2
  simpa using h2

theorem begins_sum {c : UInt8} {r : List UInt8} (h : Lx.isSg c = true) : ∃ q, q < 20 ∧ Begins (c :: r) q := by
  simp only [Lx.isSg, Lx.sigBytes, List.contains_iff_mem, List.mem_cons, List.not_mem_nil, or_false] at h
  rcases h with rfl | rfl | rfl | rfl | rfl | rfl | rfl | rfl | rfl | rfl | rfl | rfl | rfl | rfl | rfl | rfl
  · exact ⟨4, by omega, by simp [Begins, signList]⟩
  · exact ⟨5, by omega, by simp [Begins, signList]⟩
  · exact ⟨6, by omega, by simp [Begins, signList]⟩
  · exact ⟨7, by omega, by simp [Begins, signList]⟩
  · exact ⟨8, by omega, by simp [Begins, signList]⟩
  · exact ⟨9, by omega, by simp [Begins, signList]⟩
  · exact ⟨10, by omega, by simp [Begins, signList]⟩
  · exact ⟨11, by omega, by simp [Begins, signList]⟩
  · exact ⟨12, by omega, by simp [Begins, signList]⟩
  · exact ⟨13, by omega, by simp [Begins, signList]⟩
  · exact ⟨14, by omega, by simp [Begins, signList]⟩
  · exact ⟨15, by omega, by simp [Begins, signList]⟩
  · exact ⟨16, by omega, by simp [Begins, signList]⟩
  · exact ⟨17, by omega, by simp [Begins, signList]⟩
  · exact ⟨18, by omega, by simp [Begins, signList]⟩
  · exact ⟨19, by omega, by simp [Begins, signList]⟩

theorem sign_lens : ∀ q, q < 20 → (signList.getD q []).length = if q < 4 then 2 else 1 := by decide

theorem sign_hit (pos : Nat) {c : UInt8} {r : List UInt8} (h0 : Lx.isDig c = false) (h1 : Lx.isLet c = false) {k : Nat} (hk : k < 20) (hm : Begins (c :: r) k) (hn : ∀ q, q < k → ¬ Begins (c :: r) q) :
    Lx.tokAt pos (c :: r) = .ok (⟨4, pos, signList.getD k [], 0⟩, (signList.getD k []).length) := by
  rw [Lx.tokAt_sg pos c r h0 h1 (begins_sg hk hm)]
  have hl := sign_lens k hk
  have hs : Lx.signLen (c :: r) = (signList.getD k []).length := by
    rw [hl]
    by_cases h4 : k < 4
    · rw [if_pos h4]; exact signLen_two h4 hm
    · rw [if_neg h4]; exact signLen_one (fun q hq => hn q (by omega))
  rw [hs, hm]

theorem sign_miss (pos : Nat) {c : UInt8} {r : List UInt8} (h0 : Lx.isDig c = false) (h1 : Lx.isLet c = false) (hn : ∀ q, q < 20 → ¬ Begins (c :: r) q) : Lx.tokAt pos (c :: r) = .error (2, pos) := by
  cases hs : Lx.isSg c with
  | false => exact Lx.tokAt_no pos c r h0 h1 hs
  | true =>
    obtain ⟨q, hq, hb⟩ := begins_sum (r := r) hs
    exact absurd hb (hn q hq)
end Go.Proofs.YtkckmfnmdkfkaaaDoor
