/-
  A piece more; what stacks and pieces tell, by the state.
-/
import Derived.Test.YtknjbiineihgfaaLf
set_option linter.unusedVariables false
set_option linter.unusedSimpArgs false
namespace Go.Proofs.Ytknjbiineihgfaa
open Go.RowKit

def Gh.add (g : Gh) (x : Pc) (vp vq : Value) : Gh := { g with P := g.P ++ [x], vp := vp, vq := vq }
theorem Mem.add {w0 w w1 w2 : World} {g : Gh} (h : Mem w0 g w) {x : Pc} {vp vq : Value} (hx : PcM g.D w x.pb x.u x.S x.z) (hr : RsM w x.q x.M) (hloose : ∀ ρ k, g.own ρ k → rown x.q x.M k → False) (hold : ∀ k, rown x.q x.M k → w0.heap.size ≤ k)
    (hc1 : Ch (fun k => g.vp.ownBlock = some k) w w1) (hm1 : ∀ k, vp.ownBlock = some k → g.vp.ownBlock = some k ∨ w.heap.size ≤ k) (hr1 : w1.ownsRow 0 40 1 vp (g.P.length + 1) (g.P.map (fun x => ptrTo x.pb) ++ [ptrTo x.pb]))
    (hc2 : Ch (fun k => g.vq.ownBlock = some k) w1 w2) (hm2 : ∀ k, vq.ownBlock = some k → g.vq.ownBlock = some k ∨ w1.heap.size ≤ k) (hr2 : w2.ownsRow 0 47 1 vq (g.P.length + 1) (g.P.map Pc.q ++ [x.q])) :
    Mem w0 (g.add x vp vq) w2 := by
  have hs1 := hc1.size
  have hs2 := hc2.size
  have hc : Ch (fun k => g.vp.ownBlock = some k ∨ g.vq.ownBlock = some k) w w2 := (hc1.mono (fun _ h => .inl h)).trans hc2 (fun k hk => .inl (.inr hk))
  have hsm : ∀ ρ, ρ ≠ .p → ρ ≠ .q → ∀ k, g.own ρ k → w2.heap[k]? = w.heap[k]? := fun ρ h1 h2 => h.same hc ρ (fun k hk hk2 => by
    rcases hk with e | e
    · exact h1 (h.dj ρ .p k hk2 e)
    · exact h2 (h.dj ρ .q k hk2 e))
  have hkr : ∀ k, rown x.q x.M k → w2.heap[k]? = w.heap[k]? := fun k hk => hc.same k (hr.lt hk) (fun e => by
    rcases e with e | e
    · exact hloose .p k e hk
    · exact hloose .q k e hk)
  have cls : ∀ ρ k, (g.add x vp vq).own ρ k → g.own ρ k ∨ (ρ = .pc g.P.length ∧ rown x.q x.M k) ∨ (ρ = .p ∧ w.heap.size ≤ k ∧ k < w1.heap.size) ∨ (ρ = .q ∧ w1.heap.size ≤ k ∧ k < w2.heap.size) := by
    intro ρ k hk
    cases ρ with
    | p =>
      rcases hm1 k hk with e | e
      · exact .inl e
      · exact .inr (.inr (.inl ⟨rfl, e, ownsRow_lt hr1 hk⟩))
    | q =>
      rcases hm2 k hk with e | e
      · exact .inl e
      · exact .inr (.inr (.inr ⟨rfl, e, ownsRow_lt hr2 hk⟩))
    | pc i =>
      obtain ⟨y, hy, hk⟩ := hk
      simp only [Gh.add] at hy
      by_cases hi : i < g.P.length
      · rw [List.getElem?_append_left hi] at hy
        exact .inl ⟨y, hy, hk⟩
      · rw [List.getElem?_append_right (by omega)] at hy
        have hi2 : i - g.P.length = 0 := by
          have := (List.getElem?_eq_some_iff.1 hy).1
          simpa using this
        rw [hi2] at hy
        obtain rfl : x = y := by simpa using hy
        exact .inr (.inl ⟨by rw [show i = g.P.length by omega], hk⟩)
    | d => exact .inl hk
    | st i => exact .inl hk
    | rt i => exact .inl hk
    | s => exact .inl hk
    | r => exact .inl hk
  refine ⟨fun ρ k hk => ?_, fun ρ σ k h1 h2 => ?_, fun ρ k hk => ?_, h.ch.trans hc (fun k hk => .inr ?_), fun j => (h.st j).keep (fun _ h => h) (h.st j).dis (fun k hk => ?_), fun j => (h.rt j).keep (hsm (.rt j) (by simp) (by simp)), fun y hy => ?_, fun y hy => ?_, ?_, ?_, (hsm .s (by simp) (by simp) _ rfl).trans h.bs, (hsm .r (by simp) (by simp) _ rfl).trans h.br⟩
  · rcases cls ρ k hk with e | ⟨_, e⟩ | ⟨_, e⟩ | ⟨_, e⟩
    · have := h.lt ρ k e; omega
    · have := hr.lt e; omega
    · omega
    · omega
  · rcases cls ρ k h1 with e1 | ⟨e1, f1⟩ | ⟨e1, f1⟩ | ⟨e1, f1⟩ <;> rcases cls σ k h2 with e2 | ⟨e2, f2⟩ | ⟨e2, f2⟩ | ⟨e2, f2⟩
    · exact h.dj ρ σ k e1 e2
    · exact (hloose ρ k e1 f2).elim
    · have := h.lt ρ k e1; omega
    · have := h.lt ρ k e1; omega
    · exact (hloose σ k e2 f1).elim
    · rw [e1, e2]
    · have := hr.lt f1; omega
    · have := hr.lt f1; omega
    · have := h.lt σ k e2; omega
    · have := hr.lt f2; omega
    · rw [e1, e2]
    · omega
    · have := h.lt σ k e2; omega
    · have := hr.lt f2; omega
    · omega
    · rw [e1, e2]
  · have hw := h.ch.size
    rcases cls ρ k hk with e | ⟨_, e⟩ | ⟨_, e⟩ | ⟨_, e⟩
    · exact h.old ρ k e
    · exact hold k e
    · omega
    · omega
  · rcases hk with e | e
    · exact h.old .p k e
    · exact h.old .q k e
  · rcases hk with hk | hk
    · exact hsm (.st j) (by simp) (by simp) k hk
    · exact hsm .d (by simp) (by simp) k hk
  · have hy : y ∈ g.P ++ [x] := hy
    rcases List.mem_append.1 hy with hy | hy
    · exact (h.pm y hy).keep (fun _ h => h) (hsm .d (by simp) (by simp))
    · obtain rfl : y = x := by simpa using hy
      exact hx.keep (fun _ h => h) (hsm .d (by simp) (by simp))
  · have hy : y ∈ g.P ++ [x] := hy
    rcases List.mem_append.1 hy with hy | hy
    · refine (h.pr y hy).keep (fun k hk => ?_)
      obtain ⟨i, hi⟩ := List.getElem?_of_mem hy
      exact hsm (.pc i) (by simp) (by simp) k ⟨y, hi, hk⟩
    · obtain rfl : y = x := by simpa using hy
      exact hr.keep hkr
  · have : w2.ownsRow 0 40 1 vp (g.P.length + 1) (g.P.map (fun x => ptrTo x.pb) ++ [ptrTo x.pb]) := ownsRow_keep hr1 (fun k hk => hc2.same k (ownsRow_lt hr1 hk) (fun e => by
      rcases hm1 k hk with e2 | e2
      · exact h.far (ρ := .p) (σ := .q) (by simp) k e2 e
      · have := h.lt .q k e; omega))
    simpa [Gh.add] using this
  · simpa [Gh.add] using hr2

/-- How many frames. -/
def cntT (T : List Sg) : Nat := (T.map (fun s => s.l.length)).sum
theorem cntT_map (L : List Sn) : cntT (L.map Sn.s) = cntN L := by simp [cntT, cntN, Function.comp_def]
theorem cntT_append (A B : List Sg) : cntT (A ++ B) = cntT A + cntT B := by simp [cntT]
theorem cntT_le {T : List Sg} {s : Sg} (h : s ∈ T) : s.l.length ≤ cntT T := by
  obtain ⟨A, B, rfl⟩ := List.append_of_mem h
  simp [cntT]
  omega
/-- What a stack's segments are, behind m rounds. -/
structure Tm (T : List Sg) (m : Nat) : Prop where
  n : T.length ≤ 500 * m + 1
  c : cntT T ≤ 2001 * m
  f : ∃ a r, T = a :: r ∧ a.has = false
structure Tp (T : List Sg) (m : Nat) : Prop where
  n : T.length ≤ 500 * m + 1
  c : cntT T ≤ 2001 * m
structure Pl (g : Gh) (m : Nat) : Prop where
  s : ∀ j, Tm ((g.S j ++ [g.z j]).map Sn.s) m
  l : ∀ j, (g.L j).map Rn.s = (g.S j ++ [g.z j]).map Sn.s
  p : ∀ x ∈ g.P, Tp ((x.S ++ [x.z]).map Sn.s) m
  q : ∀ x ∈ g.P, x.M.map Rn.s = (x.S ++ [x.z]).map Sn.s
  k : g.P.length ≤ m
theorem Tm.up {T : List Sg} {m : Nat} (h : Tm T m) : Tm T (m + 1) := ⟨by have := h.n; omega, by have := h.c; omega, h.f⟩
theorem Tp.up {T : List Sg} {m : Nat} (h : Tp T m) : Tp T (m + 1) := ⟨by have := h.n; omega, by have := h.c; omega⟩
theorem Pl.up {g : Gh} {m : Nat} (h : Pl g m) : Pl g (m + 1) := ⟨fun j => (h.s j).up, h.l, fun x hx => (h.p x hx).up, h.q, Nat.le_succ_of_le h.k⟩
/-- A stack and the document's are turned alike. -/
theorem Pl.set {g : Gh} {m : Nat} (h : Pl g m) {j : Bool} {D : Nat → Prop} {v rv : Value} {S : List Sn} {z : Sn} {L : List Rn} {T : List Sg} (h1 : (S ++ [z]).map Sn.s = T) (h2 : L.map Rn.s = T) (hT : Tm T (m + 1)) : Pl ((g.setSt j D v S z).setRt j rv L) (m + 1) := by
  have hu := h.up
  refine ⟨fun i => ?_, fun i => ?_, hu.p, hu.q, hu.k⟩
  · by_cases hi : i = j
    · subst hi; simp only [Gh.setSt, Gh.setRt, at1_same]; rw [h1]; exact hT
    · simp only [Gh.setSt, Gh.setRt, at1_other _ _ hi]; exact hu.s i
  · by_cases hi : i = j
    · subst hi; simp only [Gh.setSt, Gh.setRt, at1_same]; rw [h1, h2]
    · simp only [Gh.setSt, Gh.setRt, at1_other _ _ hi]; exact hu.l i

theorem Mem.alike {w0 w : World} {g : Gh} {m : Nat} (h : Mem w0 g w) (hp : Pl g m) (hm : m ≤ 301) (j : Bool) :
    Calls Try.prog 25 #[.pointer (some ⟨g.b j, 0, none⟩), .pointer (some ⟨g.c j, 0, none⟩)] w fun e w' => e = .returned (.bool true) ∧ Ch (fun _ => False) w w' := by
  have hs := hp.s j
  have hn := hs.n
  have hc := hs.c
  rw [cntT_map] at hc
  simp only [List.length_map, List.length_append, List.length_cons, List.length_nil] at hn
  have hl := hp.l j
  have hL0 : (g.L j).length = (g.S j).length + 1 := by simpa using congrArg List.length hl
  refine alike_any w (g.b j) _ ((h.st j).tells (fun k hk => h.lt .d k hk) (by omega) (by omega)) (g.c j) (g.rv j) (g.L j) (h.rt j) (by omega) hl (fun r hr => ?_)
  have : r.s ∈ (g.S j ++ [g.z j]).map Sn.s := by rw [← hl]; exact List.mem_map_of_mem hr
  have := cntT_le this
  rw [cntT_map] at this
  omega
theorem Mem.piece {w0 w : World} {g : Gh} {m : Nat} (h : Mem w0 g w) (hp : Pl g m) (hm : m ≤ 301) {x : Pc} (hx : x ∈ g.P) :
    Calls Try.prog 26 #[.pointer (some ⟨x.pb, 0, none⟩), x.q] w fun e w' => e = .returned (.bool true) ∧ Ch (fun _ => False) w w' := by
  have hs := hp.p x hx
  have hn := hs.n
  have hc := hs.c
  rw [cntT_map] at hc
  simp only [List.length_map, List.length_append, List.length_cons, List.length_nil] at hn
  have hl := hp.q x hx
  have hL0 : x.M.length = x.S.length + 1 := by simpa using congrArg List.length hl
  refine piece_any w x.pb _ ((h.pm x hx).tells (fun k hk => h.lt .d k hk) (by omega) (by omega)) x.q x.M (h.pr x hx) (by omega) hl (fun r hr => ?_)
  have : r.s ∈ (x.S ++ [x.z]).map Sn.s := by rw [← hl]; exact List.mem_map_of_mem hr
  have := cntT_le this
  rw [cntT_map] at this
  omega
end Go.Proofs.Ytknjbiineihgfaa
