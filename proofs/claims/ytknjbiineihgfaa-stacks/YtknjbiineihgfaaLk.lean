/-
  The round's state.
-/
import Derived.Test.YtknjbiineihgfaaLj
set_option linter.unusedVariables false
set_option linter.unusedSimpArgs false
namespace Go.Proofs.Ytknjbiineihgfaa
open Go.RowKit

/-- Behind m rounds, at the stack t. -/
structure Inv (w0 : World) (la : Option Addr) (ln lc : Nat) (g : Gh) (m t : Nat) (a : Act) (w : World) : Prop where
  fr : Fr a (.slice la ln lc) (.slice (some ⟨g.bs, 0, none⟩) 2 2) (.slice (some ⟨g.br, 0, none⟩) 2 2) g.vp g.vq (.int .i64 t) (.int .i64 m)
  mem : Mem w0 g w
  pl : Pl g m
  m1 : m ≤ 300
  m2 : m ≤ ln
  t2 : t < 2
def WI (w0 : World) (la : Option Addr) (ln lc : Nat) (a : Act) (w : World) : Prop := ∃ g m t, Inv w0 la ln lc g m t a w
def Wmu (a : Act) (_ : World) : Nat := 300 - (intOf (a.tmps.getD 8 undef)).toNat
theorem round_end {w0 w' : World} {la : Option Addr} {ln lc m t : Nat} {g' : Gh} {a' : Act} (hmem : Mem w0 g' w') (hpl : Pl g' (m + 1)) (hm1 : m < 300) (hm2 : m < ln) (ht : t < 2)
    (fr : Fr a' (.slice la ln lc) (.slice (some ⟨g'.bs, 0, none⟩) 2 2) (.slice (some ⟨g'.br, 0, none⟩) 2 2) g'.vp g'.vq (.int .i64 t) (.int .i64 ((m : Int) + 1))) : WI w0 la ln lc a' w' ∧ Wmu a' w' < 300 - m := by
  refine ⟨⟨g', m + 1, t, ⟨by simpa using fr, hmem, hpl, by omega, by omega, ht⟩⟩, ?_⟩
  have := fr.e8
  simp only [Wmu, Array.getD_eq_getD_getElem?, this, Option.getD_some, intOf]
  omega
/-- What a round knows of its two stacks. -/
structure Two1 (w0 w : World) (g : Gh) (m t : Nat) (j : Bool) : Prop where
  cs : w.cell? ⟨g.bs, t, none⟩ = some (.pointer (some ⟨g.b j, 0, none⟩))
  cr : w.cell? ⟨g.br, t, none⟩ = some (.pointer (some ⟨g.c j, 0, none⟩))
  n : (g.S j).length ≤ 500 * m
  c : cntN (g.S j ++ [g.z j]) ≤ 2001 * m
  l : (g.L j).map Rn.s = (g.S j).map Sn.s ++ [(g.z j).s]
  al : (g.z j).s.l.length ≤ 2001 * m
  ll : (g.L j).length = (g.S j).length + 1
  rl : ∀ r ∈ g.L j, r.s.l.length ≤ 2001 * m
theorem Mem.two {w0 w : World} {g : Gh} {m t : Nat} (h : Mem w0 g w) (hp : Pl g m) (ht : t < 2) : ∃ j, Two1 w0 w g m t j := by
  have key : ∀ j, (g.S j).length ≤ 500 * m ∧ cntN (g.S j ++ [g.z j]) ≤ 2001 * m ∧ (g.L j).map Rn.s = (g.S j).map Sn.s ++ [(g.z j).s] ∧ (g.z j).s.l.length ≤ 2001 * m ∧ (g.L j).length = (g.S j).length + 1 ∧ ∀ r ∈ g.L j, r.s.l.length ≤ 2001 * m := by
    intro j
    have hs := hp.s j
    have hn := hs.n
    have hc := hs.c
    have hl := hp.l j
    refine ⟨by simpa using hn, by rw [cntT_map] at hc; exact hc, by rw [hl]; simp, ?_, by simpa using congrArg List.length hl, fun r hr => ?_⟩
    · have := cntT_le (T := (g.S j ++ [g.z j]).map Sn.s) (s := (g.z j).s) (by simp)
      omega
    · have := cntT_le (T := (g.S j ++ [g.z j]).map Sn.s) (s := r.s) (by rw [← hl]; exact List.mem_map_of_mem hr)
      omega
  have hb := h.bs
  have hr := h.br
  have e : t = 0 ∨ t = 1 := by omega
  rcases e with rfl | rfl
  · obtain ⟨k1, k2, k3, k4, k5, k6⟩ := key false
    exact ⟨false, by simp [World.cell?, hb, ptrTo], by simp [World.cell?, hr, ptrTo], k1, k2, k3, k4, k5, k6⟩
  · obtain ⟨k1, k2, k3, k4, k5, k6⟩ := key true
    exact ⟨true, by simp [World.cell?, hb, ptrTo], by simp [World.cell?, hr, ptrTo], k1, k2, k3, k4, k5, k6⟩
theorem snoc_map (S : List Sn) (z : Sn) : (S ++ [z]).map Sn.s = S.map Sn.s ++ [z.s] := by simp
theorem Pl.tm {g : Gh} {m : Nat} (h : Pl g m) (j : Bool) : Tm ((g.S j).map Sn.s ++ [(g.z j).s]) m := by rw [← snoc_map]; exact h.s j
/-- The innermost segment is another one. -/
theorem Tm.last {A : List Sg} {a b : Sg} {m : Nat} (h : Tm (A ++ [a]) m) (hb : b.l.length ≤ a.l.length + 1) (hh : b.has = a.has) : Tm (A ++ [b]) (m + 1) := by
  refine ⟨by have := h.n; simp at this ⊢; omega, ?_, ?_⟩
  · have := h.c
    simp [cntT] at this ⊢
    omega
  · obtain ⟨x, r, e, hx⟩ := h.f
    cases A with
    | nil =>
      refine ⟨b, [], rfl, ?_⟩
      simp at e
      rw [hh, e.1]; exact hx
    | cons y A =>
      simp at e
      exact ⟨y, A ++ [b], rfl, by rw [e.1]; exact hx⟩
theorem Tm.snoc {A : List Sg} {b : Sg} {m : Nat} (h : Tm A m) (hb : b.l = []) : Tm (A ++ [b]) (m + 1) := by
  refine ⟨by have := h.n; simp; omega, by have := h.c; simp [cntT] at this ⊢; rw [hb]; simp; omega, ?_⟩
  obtain ⟨x, r, e, hx⟩ := h.f
  exact ⟨x, r ++ [b], by rw [e]; rfl, hx⟩
theorem Tm.clo {A T : List Sg} {a : Sg} {m : Nat} {r : Int × Bool × Bool} (h : Tm (A ++ [a]) m) (e : cloR A a = (r, T)) : Tm T (m + 1) := by
  unfold cloR at e
  split at e
  · obtain ⟨_, rfl⟩ := Prod.mk.inj e
    exact h.up
  · rename_i hc
    obtain ⟨_, rfl⟩ := Prod.mk.inj e
    refine ⟨by have := h.n; simp at this; omega, by have := h.c; simp [cntT] at this ⊢; omega, ?_⟩
    obtain ⟨x, r, e, hx⟩ := h.f
    cases A with
    | nil => exact absurd (.inl rfl) hc
    | cons y A => simp at e; exact ⟨y, A, rfl, by rw [e.1]; exact hx⟩
theorem Tm.put {A B : List Sg} {m : Nat} (h : Tm A m) (hA : A.length < 500) (hc : cntT A < 2000) (hB : Tp B m) : Tm (A ++ B) (m + 1) := by
  refine ⟨by have := hB.n; simp; omega, by have := hB.c; rw [cntT_append]; omega, ?_⟩
  obtain ⟨x, r, e, hx⟩ := h.f
  exact ⟨x, r ++ B, by rw [e]; rfl, hx⟩
end Go.Proofs.Ytknjbiineihgfaa
