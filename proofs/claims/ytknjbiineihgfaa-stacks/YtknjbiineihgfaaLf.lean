/-
  The state of the law's script: two stacks, the document's two, pieces; who owns which blocks.
-/
import Derived.Test.YtknjbiineihgfaaLe
set_option linter.unusedVariables false
set_option linter.unusedSimpArgs false
namespace Go.Proofs.Ytknjbiineihgfaa
open Go.RowKit

/-- A piece that was cut, and the document's. -/
structure Pc where
  pb : Nat
  u : Value
  S : List Sn
  z : Sn
  q : Value
  M : List Rn
/-- Who owns blocks. -/
inductive Ro where
  | d
  | st (j : Bool)
  | rt (j : Bool)
  | pc (i : Nat)
  | p
  | q
  | s
  | r
structure Gh where
  D : Nat → Prop
  b : Bool → Nat
  v : Bool → Value
  S : Bool → List Sn
  z : Bool → Sn
  c : Bool → Nat
  rv : Bool → Value
  L : Bool → List Rn
  P : List Pc
  vp : Value
  vq : Value
  bs : Nat
  br : Nat
def Gh.own (g : Gh) : Ro → Nat → Prop
  | .d => g.D
  | .st j => Go.Proofs.Ytknjbiineihgfaa.own (g.b j) (g.v j)
  | .rt j => rtown (g.c j) (g.rv j) (g.L j)
  | .pc i => fun k => ∃ x, g.P[i]? = some x ∧ rown x.q x.M k
  | .p => fun k => g.vp.ownBlock = some k
  | .q => fun k => g.vq.ownBlock = some k
  | .s => fun k => k = g.bs
  | .r => fun k => k = g.br
def ptrTo (b : Nat) : Value := .pointer (some ⟨b, 0, none⟩)
structure Mem (w0 : World) (g : Gh) (w : World) : Prop where
  lt : ∀ ρ k, g.own ρ k → k < w.heap.size
  dj : ∀ ρ σ k, g.own ρ k → g.own σ k → ρ = σ
  old : ∀ ρ k, g.own ρ k → w0.heap.size ≤ k
  ch : Ch (fun _ => False) w0 w
  st : ∀ j, StM g.D w (g.b j) 61 (g.v j) (g.S j) (g.z j)
  rt : ∀ j, RtM w (g.c j) (g.rv j) (g.L j)
  pm : ∀ x ∈ g.P, PcM g.D w x.pb x.u x.S x.z
  pr : ∀ x ∈ g.P, RsM w x.q x.M
  rp : w.ownsRow 0 40 1 g.vp g.P.length (g.P.map fun x => ptrTo x.pb)
  rq : w.ownsRow 0 47 1 g.vq g.P.length (g.P.map Pc.q)
  bs : w.heap[g.bs]? = some (.cells #[ptrTo (g.b false), ptrTo (g.b true)] 23 (0, 0))
  br : w.heap[g.br]? = some (.cells #[ptrTo (g.c false), ptrTo (g.c true)] 26 (0, 0))

theorem Mem.same {w0 w w' : World} {g : Gh} (h : Mem w0 g w) {O : Nat → Prop} (hc : Ch O w w') (ρ : Ro) (hO : ∀ k, O k → g.own ρ k → False) : ∀ k, g.own ρ k → w'.heap[k]? = w.heap[k]? :=
  fun k hk => hc.same k (h.lt ρ k hk) (fun e => hO k e hk)
theorem Mem.far {w0 w : World} {g : Gh} (h : Mem w0 g w) {ρ σ : Ro} (hne : ρ ≠ σ) : ∀ k, g.own ρ k → g.own σ k → False := fun k h1 h2 => hne (h.dj ρ σ k h1 h2)
/-- Nobody's blocks were turned. -/
theorem Mem.stay {w0 w w' : World} {g : Gh} (h : Mem w0 g w) {O : Nat → Prop} (hc : Ch O w w') (hO : ∀ ρ k, O k → g.own ρ k → False) (hO2 : ∀ k, O k → w0.heap.size ≤ k) : Mem w0 g w' := by
  have hs : ∀ ρ k, g.own ρ k → w'.heap[k]? = w.heap[k]? := fun ρ => h.same hc ρ (hO ρ)
  refine ⟨fun ρ k hk => Nat.lt_of_lt_of_le (h.lt ρ k hk) hc.size, h.dj, h.old, h.ch.trans hc (fun k hk => .inr (hO2 k hk)), fun j => (h.st j).keep (fun _ h => h) (h.st j).dis (fun k hk => ?_), fun j => (h.rt j).keep (fun k hk => hs (.rt j) k hk), fun x hx => (h.pm x hx).keep (fun _ h => h) (fun k hk => hs .d k hk), fun x hx => (h.pr x hx).keep (fun k hk => ?_),
    ownsRow_keep h.rp (fun k hk => hs .p k hk), ownsRow_keep h.rq (fun k hk => hs .q k hk), (hs .s _ rfl).trans h.bs, (hs .r _ rfl).trans h.br⟩
  · rcases hk with hk | hk
    · exact hs (.st j) k hk
    · exact hs .d k hk
  · obtain ⟨i, hi⟩ := List.getElem?_of_mem hx
    exact hs (.pc i) k ⟨x, hi, hk⟩
theorem Mem.quiet {w0 w w' : World} {g : Gh} (h : Mem w0 g w) (hc : Ch (fun _ => False) w w') : Mem w0 g w' := h.stay hc (fun _ _ h _ => h) (fun _ h => h.elim)
theorem Mem.core {w0 w w' : World} {g g' : Gh} (h : Mem w0 g w) (hsz : w.heap.size ≤ w'.heap.size) (hM : ∀ ρ k, g'.own ρ k → g.own ρ k ∨ (w.heap.size ≤ k ∧ k < w'.heap.size)) (hN : ∀ ρ σ k, w.heap.size ≤ k → g'.own ρ k → g'.own σ k → ρ = σ) :
    (∀ ρ k, g'.own ρ k → k < w'.heap.size) ∧ (∀ ρ σ k, g'.own ρ k → g'.own σ k → ρ = σ) ∧ (∀ ρ k, g'.own ρ k → w0.heap.size ≤ k) := by
  refine ⟨fun ρ k hk => ?_, fun ρ σ k h1 h2 => ?_, fun ρ k hk => ?_⟩
  · rcases hM ρ k hk with e | e
    · exact Nat.lt_of_lt_of_le (h.lt ρ k e) hsz
    · exact e.2
  · rcases hM ρ k h1 with e1 | e1
    · rcases hM σ k h2 with e2 | e2
      · exact h.dj ρ σ k e1 e2
      · exact hN ρ σ k e2.1 h1 h2
    · exact hN ρ σ k e1.1 h1 h2
  · rcases hM ρ k hk with e | e
    · exact h.old ρ k e
    · have := h.ch.size; omega

/-- A function turned at one place. -/
def at1 {α : Type} (f : Bool → α) (j : Bool) (x : α) : Bool → α := fun i => if i = j then x else f i
@[simp] theorem at1_same {α : Type} (f : Bool → α) (j : Bool) (x : α) : at1 f j x j = x := by simp [at1]
theorem at1_other {α : Type} (f : Bool → α) {j i : Bool} (x : α) (h : i ≠ j) : at1 f j x i = f i := by simp [at1, h]
/-- A stack of the program's is another one. -/
def Gh.setSt (g : Gh) (j : Bool) (D : Nat → Prop) (v : Value) (S : List Sn) (z : Sn) : Gh := { g with D := D, v := at1 g.v j v, S := at1 g.S j S, z := at1 g.z j z }
def Gh.setRt (g : Gh) (j : Bool) (v : Value) (L : List Rn) : Gh := { g with rv := at1 g.rv j v, L := at1 g.L j L }

theorem Mem.setSt {w0 w w' : World} {g : Gh} (h : Mem w0 g w) {j : Bool} {D' : Nat → Prop} {v' : Value} {S' : List Sn} {z' : Sn} {O : Nat → Prop} (hc : Ch O w w') (hO : ∀ k, O k → g.own (.st j) k ∨ (∀ ρ, ¬ g.own ρ k) ∧ w0.heap.size ≤ k)
    (hD : ∀ k, g.D k → D' k) (hDm : More w g.D D') (hm : More w (own (g.b j) (g.v j)) (own (g.b j) v')) (hs : StM D' w' (g.b j) 61 v' S' z') (hDl : ∀ k, D' k → k < w'.heap.size) : Mem w0 (g.setSt j D' v' S' z') w' := by
  have hsm : ∀ ρ, ρ ≠ .st j → ∀ k, g.own ρ k → w'.heap[k]? = w.heap[k]? := fun ρ hρ => h.same hc ρ (fun k hk hk2 => by
    rcases hO k hk with e | e
    · exact hρ (h.dj ρ _ k hk2 e)
    · exact e.1 ρ hk2)
  have hown : ∀ ρ k, (g.setSt j D' v' S' z').own ρ k → (ρ ≠ .d → ρ ≠ .st j → g.own ρ k) ∧ (ρ = .d → D' k) ∧ (ρ = .st j → own (g.b j) v' k) := by
    intro ρ k hk
    refine ⟨fun h1 h2 => ?_, fun e => by subst e; exact hk, fun e => by subst e; simpa [Gh.own, Gh.setSt] using hk⟩
    cases ρ with
    | d => exact absurd rfl h1
    | st i =>
      have hi : i ≠ j := fun e => h2 (by rw [e])
      simpa [Gh.own, Gh.setSt, at1_other _ _ hi] using hk
    | rt i => exact hk
    | pc i => exact hk
    | p => exact hk
    | q => exact hk
    | s => exact hk
    | r => exact hk
  obtain ⟨c1, c2, c3⟩ := h.core (g' := g.setSt j D' v' S' z') hc.size (fun ρ k hk => by
    obtain ⟨a1, a2, a3⟩ := hown ρ k hk
    by_cases e1 : ρ = .d
    · subst e1
      rcases hDm k (a2 rfl) with e | e
      · exact .inl e
      · exact .inr ⟨e, hDl k (a2 rfl)⟩
    · by_cases e2 : ρ = .st j
      · subst e2
        rcases hm k (a3 rfl) with e | e
        · exact .inl e
        · exact .inr ⟨e, hs.own_lt (a3 rfl)⟩
      · exact .inl (a1 e1 e2)) (fun ρ σ k hk h1 h2 => by
    have key : ∀ τ, (g.setSt j D' v' S' z').own τ k → (τ = .d ∧ D' k) ∨ (τ = .st j ∧ own (g.b j) v' k) := fun τ hτ => by
      obtain ⟨a1, a2, a3⟩ := hown τ k hτ
      by_cases e1 : τ = .d
      · exact .inl ⟨e1, a2 e1⟩
      · by_cases e2 : τ = .st j
        · exact .inr ⟨e2, a3 e2⟩
        · have := h.lt τ k (a1 e1 e2); omega
    rcases key ρ h1 with ⟨e1, f1⟩ | ⟨e1, f1⟩ <;> rcases key σ h2 with ⟨e2, f2⟩ | ⟨e2, f2⟩
    · rw [e1, e2]
    · exact absurd f1 (hs.dis k f2)
    · exact absurd f2 (hs.dis k f1)
    · rw [e1, e2])
  refine ⟨c1, c2, c3, h.ch.trans hc (fun k hk => .inr ?_), fun i => ?_, fun i => (h.rt i).keep (hsm (.rt i) (by simp)), fun x hx => (h.pm x hx).keep hD (hsm .d (by simp)), fun x hx => (h.pr x hx).keep (fun k hk => ?_),
    ownsRow_keep h.rp (hsm .p (by simp)), ownsRow_keep h.rq (hsm .q (by simp)), (hsm .s (by simp) _ rfl).trans h.bs, (hsm .r (by simp) _ rfl).trans h.br⟩
  · rcases hO k hk with e | e
    · exact h.old _ k e
    · exact e.2
  · by_cases hi : i = j
    · subst hi
      simpa [Gh.setSt] using hs
    · have hi2 : Ro.st i ≠ Ro.st j := fun e => hi (by injection e)
      have : StM D' w' (g.b i) 61 (g.v i) (g.S i) (g.z i) := (h.st i).keep hD (fun k hk hk2 => by
        rcases hDm k hk2 with e | e
        · exact (h.st i).dis k hk e
        · have := h.lt (.st i) k hk; omega) (fun k hk => by
        rcases hk with hk | hk
        · exact hsm (.st i) hi2 k hk
        · exact hsm .d (by simp) k hk)
      simpa [Gh.setSt, at1_other _ _ hi] using this
  · obtain ⟨i, hi⟩ := List.getElem?_of_mem hx
    exact hsm (.pc i) (by simp) k ⟨x, hi, hk⟩

theorem Mem.setRt {w0 w w' : World} {g : Gh} (h : Mem w0 g w) {j : Bool} {v' : Value} {L' : List Rn} (hc : Ch (rtown (g.c j) (g.rv j) (g.L j)) w w')
    (hm : More w (rtown (g.c j) (g.rv j) (g.L j)) (rtown (g.c j) v' L')) (hs : RtM w' (g.c j) v' L') : Mem w0 (g.setRt j v' L') w' := by
  have hsm : ∀ ρ, ρ ≠ .rt j → ∀ k, g.own ρ k → w'.heap[k]? = w.heap[k]? := fun ρ hρ => h.same hc ρ (fun k hk hk2 => hρ (h.dj ρ (.rt j) k hk2 hk))
  have hown : ∀ ρ k, (g.setRt j v' L').own ρ k → (ρ ≠ .rt j → g.own ρ k) ∧ (ρ = .rt j → rtown (g.c j) v' L' k) := by
    intro ρ k hk
    refine ⟨fun h2 => ?_, fun e => by subst e; simpa [Gh.own, Gh.setRt] using hk⟩
    cases ρ with
    | rt i =>
      have hi : i ≠ j := fun e => h2 (by rw [e])
      simpa [Gh.own, Gh.setRt, at1_other _ _ hi] using hk
    | d => exact hk
    | st i => exact hk
    | pc i => exact hk
    | p => exact hk
    | q => exact hk
    | s => exact hk
    | r => exact hk
  obtain ⟨c1, c2, c3⟩ := h.core (g' := g.setRt j v' L') hc.size (fun ρ k hk => by
    obtain ⟨a1, a3⟩ := hown ρ k hk
    by_cases e2 : ρ = .rt j
    · subst e2
      rcases hm k (a3 rfl) with e | e
      · exact .inl e
      · exact .inr ⟨e, hs.lt (a3 rfl)⟩
    · exact .inl (a1 e2)) (fun ρ σ k hk h1 h2 => by
    have key : ∀ τ, (g.setRt j v' L').own τ k → τ = .rt j := fun τ hτ => by
      obtain ⟨a1, a3⟩ := hown τ k hτ
      by_cases e2 : τ = .rt j
      · exact e2
      · have := h.lt τ k (a1 e2); omega
    rw [key ρ h1, key σ h2])
  refine ⟨c1, c2, c3, h.ch.trans hc (fun k hk => .inr (h.old (.rt j) k hk)), fun i => (h.st i).keep (fun _ h => h) (h.st i).dis (fun k hk => ?_), fun i => ?_, fun x hx => (h.pm x hx).keep (fun _ h => h) (hsm .d (by simp)), fun x hx => (h.pr x hx).keep (fun k hk => ?_),
    ownsRow_keep h.rp (hsm .p (by simp)), ownsRow_keep h.rq (hsm .q (by simp)), (hsm .s (by simp) _ rfl).trans h.bs, (hsm .r (by simp) _ rfl).trans h.br⟩
  · rcases hk with hk | hk
    · exact hsm (.st i) (by simp) k hk
    · exact hsm .d (by simp) k hk
  · by_cases hi : i = j
    · subst hi
      simpa [Gh.setRt] using hs
    · have hi2 : Ro.rt i ≠ Ro.rt j := fun e => hi (by injection e)
      have : RtM w' (g.c i) (g.rv i) (g.L i) := (h.rt i).keep (hsm (.rt i) hi2)
      simpa [Gh.setRt, at1_other _ _ hi] using this
  · obtain ⟨i, hi⟩ := List.getElem?_of_mem hx
    exact hsm (.pc i) (by simp) k ⟨x, hi, hk⟩
end Go.Proofs.Ytknjbiineihgfaa
