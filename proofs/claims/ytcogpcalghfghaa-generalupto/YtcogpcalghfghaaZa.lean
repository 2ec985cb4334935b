/-
  A range over a function whose rounds all go on; who owns which blocks is said by a set. For every program. The function may be a method's value.
-/
import Derived.Test.YtcogpcalghfghaaOa
import Derived.RangeFuncNested
import Derived.RangeFuncBound
import Derived.RangeFuncCalls
import Derived.RangeFuncLeaves
set_option linter.unusedVariables false
set_option linter.unusedSimpArgs false
namespace Go.Proofs.Ytcogpcalghfghaa
open Go.RowKit

theorem Ch.put {O : Nat → Prop} (w : World) (l : Nat) (o : Obj) (hl : O l) : Ch O w (w.putObj l o) :=
  ⟨by simp, fun k _ ho => World.putObj_heap_other (fun e => ho (e ▸ hl)), rfl, rfl⟩
/-- A caller's word of its own blocks: it stands while these stand, and what lay below B. -/
structure Owns {α : Type} (B : Nat) (J : α → (Nat → Prop) → World → Prop) : Prop where
  keep : ∀ s O W W', J s O W → W'.os = W.os ∧ W'.output = W.output → W.heap.size ≤ W'.heap.size → (∀ k, O k ∨ k < B → W'.heap[k]? = W.heap[k]?) → J s O W'
  lt : ∀ s O W k, J s O W → O k → k < W.heap.size

/-- What a function that is ranged over does, if every round goes on: xs come, in their order; of what lay, blocks of the caller's alone are turned. D: blocks that it reads. -/
def Goes {α : Type} (P : Program) (g : Nat) (bd lb : Array Value) (encs : α → Array Value) (xs : List α) (D : Nat → Prop) (w : World) : Prop :=
  ∀ (l : Nat) (J : List α → (Nat → Prop) → World → Prop) (O : Nat → Prop), Owns w.heap.size J → (∀ k, D k → ¬ O k) →
    (∀ pre x O1 W1, J pre O1 W1 → (∃ rest, xs = pre ++ x :: rest) → YieldAt Fence.wide 0 P l (encs x) W1 fun e W' =>
      e = .returned (.bool true) ∧ ∃ O2, J (pre ++ [x]) O2 W' ∧ Ch O1 W1 W' ∧ ∀ k, O2 k → O1 k ∨ W1.heap.size ≤ k) →
    J [] O w → CallsIn Fence.wide 0 P g (bd ++ #[.func (.yield l) #[] #[]] ++ lb) w fun e W' =>
      (∃ v, e = .returned v) ∧ ∃ O2, J xs O2 W' ∧ Ch O w W' ∧ ∀ k, O2 k → O k ∨ w.heap.size ≤ k

theorem wp_range {α : Type} {P : Program} {g : Operand} {ps : Array Tmp} {assign body : Code} {Q : Exit → Act → World → Prop} {a : Act} {w : World}
    {gf : Nat} {bd lb : Array Value} (hg : a.eval g = .func (.func gf) bd lb) (eg : ∀ args w, (callFunc gf args).run P w = .ok (.enter gf args) w)
    {encs : α → Array Value} {xs : List α} {D : Nat → Prop} (hseq : ∀ W1, Ch (fun _ => False) w W1 → Goes P gf bd lb encs xs D W1) (hD : ∀ k, D k → k < w.heap.size) (hps : ∀ x, (encs x).size = ps.size)
    {O : Nat → Prop} (hDO : ∀ k, D k → ¬ O k) (I : List α → (Nat → Prop) → World → Prop) (hI : Owns w.heap.size I) (h0 : I [] O w) (a₁ : α → Act)
    (hassign : ∀ (l : Nat) (x : α) (W : World) (K : Act → World → Prop), K (a₁ x) W →
      assign.wpIn (Fence.wide.inRound l) 0 P (Exit.then K (fun _ _ _ => False)) { tmps := (ps.zip (encs x)).foldl (fun t (p, v) => t.setIfInBounds p v) a.tmps, defers := [] } W)
    (hbody : ∀ (l : Nat) (pre : List α) (x : α) (O1 : Nat → Prop) (W : World), I pre O1 W → (∃ rest, xs = pre ++ x :: rest) → (∀ k, O1 k → O k ∨ w.heap.size ≤ k) → Ch O w W →
      body.wpIn (Fence.wide.inRound l) 0 P (fun e _ W' => e = .normal ∧ ∃ O2, I (pre ++ [x]) O2 W' ∧ Ch O1 W W' ∧ ∀ k, O2 k → O1 k ∨ W.heap.size ≤ k) (a₁ x) W)
    (hdone : ∀ (D1 : Nat) (O2 : Nat → Prop) (W : World), w.heap.size ≤ D1 → ¬ O2 D1 → I xs O2 W → Ch O w W → (∀ k, O2 k → O k ∨ w.heap.size ≤ k) → W.heap[D1]? = some (.deferred (some [])) →
      Q .normal { a with defers := { target := .collected D1, args := #[] } :: a.defers } W) :
    (Code.rangeFunc g ps assign body).wpIn Fence.wide 0 P Q a w := by
  refine wpIn_rangeFunc ?_
  intro fn hfn
  obtain ⟨rec, hrec⟩ : ∃ rec : LoopState → Option Code → Loop, rec = fun st pe => { state := st, pending := pe, fn, tmps := a.tmps, params := ps, assign, body, defers := w.heap.size } := ⟨_, rfl⟩
  obtain ⟨W1, hW1⟩ : ∃ W1, (w.alloc (.deferred (some []))).alloc (.loop (rec .ready none)) = W1 := ⟨_, rfl⟩
  obtain ⟨d, hd⟩ : ∃ d, d = w.heap.size := ⟨_, rfl⟩
  have hL1 : W1.heap[d + 1]? = some (.loop (rec .ready none)) := by
    rw [← hW1, hd]; have := World.alloc_heap_new (w.alloc (.deferred (some []))) (.loop (rec .ready none)); rwa [World.size_alloc] at this
  have hK1 : W1.heap[d]? = some (.deferred (some [])) := by
    rw [← hW1, hd]; exact (Below.heap_alloc _ _ _ (by simp)).trans (World.alloc_heap_new w _)
  have hc1 : ∀ X, Ch X w W1 := fun X => by rw [← hW1]; exact (Ch.alloc X _ _).trans (Ch.alloc X _ _) (fun i h => .inl h)
  have hs1 : W1.heap.size = d + 2 := by rw [← hW1, hd]; simp
  have hI1 : I [] O W1 := hI.keep _ _ _ _ h0 (hc1 O).eo (hc1 O).size (fun k hk => (hc1 (fun _ => False)).same k (by rcases hk with hk | hk; exact hI.lt _ _ _ _ h0 hk; exact hk) (fun h => h))
  refine ⟨d + 1, [{ target := .collected d, args := #[] }], W1, { target := .fn (.func gf) lb, args := bd ++ #[.func (.yield (d + 1)) #[] #[]] }, W1, gf,
    bd ++ #[.func (.yield (d + 1)) #[] #[]] ++ lb, W1, ?_, ?_, ?_, ?_, fun h => (by cases h), ?_⟩
  · rw [← hW1, hrec, hd]; exact run_enterLoop_outer _ _ _ _ _
  · simp only [resolve, hg]
    simp [go_sem]
  · intro f' hf'; trivial
  · simp [invoke, go_sem, eg]
  · -- what the function holds of us: I, with the two blocks of the loop's own
    refine (hseq W1 (hc1 _) (d + 1)
      (fun pre O' W => ∃ O1, (I pre O1 W ∧ Ch O w W ∧ (∀ k, D k → ¬ O1 k) ∧ ∀ k, O1 k → O k ∨ w.heap.size ≤ k) ∧ (∀ k, O' k ↔ O1 k ∨ k = d ∨ k = d + 1) ∧ ¬ O1 d ∧ ¬ O1 (d + 1) ∧ W.heap[d + 1]? = some (.loop (rec .ready none)) ∧ W.heap[d]? = some (.deferred (some [])))
      (fun k => O k ∨ k = d ∨ k = d + 1) ⟨?_, ?_⟩ ?_ ?_ ?_).mono ?_
    · rintro s O' W W' ⟨O1, ⟨hi, hch, hdi, hsub⟩, hO', n1, n2, hl, hk⟩ heo hsz hsm
      have el := hsm (d + 1) (.inl ((hO' _).2 (.inr (.inr rfl))))
      have ek := hsm d (.inl ((hO' _).2 (.inr (.inl rfl))))
      refine ⟨O1, ⟨hI.keep _ _ _ _ hi heo hsz (fun k hk => hsm k ?_), ⟨Nat.le_trans hch.size hsz, fun k hk ho => (hsm k (.inr (by omega))).trans (hch.same k hk ho), heo.1.trans hch.eo.1, heo.2.trans hch.eo.2⟩, hdi, hsub⟩, hO', n1, n2, el.trans hl, ek.trans hk⟩
      rcases hk with hk | hk
      · exact .inl ((hO' _).2 (.inl hk))
      · exact .inr (by omega)
    · rintro s O' W k ⟨O1, ⟨hi, hch, hdi, hsub⟩, hO', n1, n2, hl, hk⟩ hk'
      rcases (hO' _).1 hk' with h | h | h
      · exact hI.lt _ _ _ _ hi h
      · subst h; exact (Array.getElem?_eq_some_iff.1 hk).1
      · subst h; exact (Array.getElem?_eq_some_iff.1 hl).1
    · rintro k hk (h | h | h)
      · exact hDO k hk h
      · have := hD k hk; omega
      · have := hD k hk; omega
    · -- a round
      rintro pre x O' W ⟨O1, ⟨hi, hch, hdi, hsub⟩, hO', n1, n2, hl, hk⟩ hx
      have hlt : d + 1 < W.heap.size := (Array.getElem?_eq_some_iff.1 hl).1
      have hy := run_yield (P := P) (args := encs x) hl (by rw [hrec]; exact hps x)
      rw [hrec] at hy
      refine ⟨fn, _, assign, body, hy, roundIn_of_wpIn hfn (hassign _ x W _ ⟨_, run_beginRound hl (by rw [hrec]), ?_⟩)⟩
      clear hy
      obtain ⟨W2, hW2⟩ : ∃ W2, W.putObj (d + 1) (.loop { rec .ready none with state := .busy }) = W2 := ⟨_, rfl⟩
      have hl2 : W2.heap[d + 1]? = some (.loop { rec .ready none with state := .busy }) := by rw [← hW2]; exact World.putObj_heap_same hlt
      have hs2 : W2.heap.size = W.heap.size := by rw [← hW2]; simp
      have hc2 : Ch (fun k => k = d + 1) W W2 := by rw [← hW2]; exact Ch.put _ _ _ rfl
      rw [hW2]
      have hk2 := (hc2.same d (by omega) (by omega)).trans hk
      have hi2 : I pre O1 W2 := hI.keep _ _ _ _ hi hc2.eo (by omega) (fun k hk => hc2.same k (by rcases hk with hk | hk; exact hI.lt _ _ _ _ hi hk; have := hch.size; omega) (fun e => by rcases hk with hk | hk; exact n2 (e ▸ hk); omega))
      refine wpIn_mono (hbody _ pre x O1 W2 hi2 hx hsub (hch.trans hc2 (fun i e => .inr (by omega)))) ?_
      rintro e a3 W3 ⟨rfl, O2, hi3, hc3, hsub3⟩
      have hl3 := (hc3.same _ (by omega) n2).trans hl2
      have hr3 := run_endRound (P := P) none hl3
      refine ⟨_, _, hr3, rfl, fun k => O2 k ∨ k = d ∨ k = d + 1, ?_, ?_, ?_⟩
      · have hs3 := hc3.size
        have m1 : ¬ O2 d := fun h => by rcases hsub3 _ h with h | h; exact n1 h; omega
        have m2 : ¬ O2 (d + 1) := fun h => by rcases hsub3 _ h with h | h; exact n2 h; omega
        have hc4 : Ch (fun k => k = d + 1) W3 (W3.putObj (d + 1) (.loop { ({ rec .ready none with state := .busy } : Loop) with state := if (none : Option Code).isNone then .ready else .done, pending := none })) := Ch.put _ _ _ rfl
        refine ⟨O2, ⟨hI.keep _ _ _ _ hi3 hc4.eo hc4.size (fun k hk => hc4.same k ?_ (fun e => ?_)), ?_, fun k hk h => ?_, fun k h => ?_⟩, fun k => Iff.rfl, m1, m2, ?_, ?_⟩
        · rcases hk with hk | hk
          · exact hI.lt _ _ _ _ hi3 hk
          · have := hch.size; omega
        · rcases hk with hk | hk
          · exact m2 (e ▸ hk)
          · omega
        · exact ((hch.trans hc2 (fun i e => .inr (by omega))).trans hc3 (fun i e => hsub i e)).trans hc4 (fun i e => .inr (by omega))
        · rcases hsub3 _ h with h | h
          · exact hdi k hk h
          · have := hD k hk; have := hch.size; omega
        · rcases hsub3 _ h with h | h
          · exact hsub k h
          · have := hch.size; exact .inr (by omega)
        · rw [World.putObj_heap_same (Array.getElem?_eq_some_iff.1 hl3).1, hrec]; rfl
        · exact (hc4.same d (by omega) (by omega)).trans ((hc3.same d (by omega) n1).trans hk2)
      · refine ⟨by have := hc3.size; simp; omega, fun k hk ho => ?_, hc3.eo.1.trans hc2.eo.1, hc3.eo.2.trans hc2.eo.2⟩
        have ho1 : ¬ O1 k := fun h => ho ((hO' _).2 (.inl h))
        have hkd : k ≠ d + 1 := fun h => ho ((hO' _).2 (.inr (.inr h)))
        exact (World.putObj_heap_other hkd).trans ((hc3.same k (by omega) ho1).trans (hc2.same k hk hkd))
      · rintro k (h | h | h)
        · rcases hsub3 _ h with h | h
          · exact .inl ((hO' _).2 (.inl h))
          · exact .inr (by omega)
        · exact .inl ((hO' _).2 (.inr (.inl h)))
        · exact .inl ((hO' _).2 (.inr (.inr h)))
    · exact ⟨O, ⟨hI1, hc1 O, hDO, fun k h => .inl h⟩, fun k => Iff.rfl, fun h => by have := hI.lt _ _ _ _ h0 h; omega, fun h => by have := hI.lt _ _ _ _ h0 h; omega, hL1, hK1⟩
    · rintro e W2 ⟨⟨v, rfl⟩, O', ⟨O1, ⟨hi, hch, hdi, hsub⟩, hO', n1, n2, hl, hk⟩, hc, hs⟩
      have hr := run_endLoop (P := P) hl (by rw [hrec]; simp)
      refine ⟨_, _, hr, ?_⟩
      have ep : (rec .ready none).pending = none := by rw [hrec]
      rw [ep]
      have hc4 : ∀ o, Ch (fun k => k = d + 1) W2 (W2.putObj (d + 1) o) := fun o => Ch.put _ _ _ rfl
      have hlt : d + 1 < W2.heap.size := (Array.getElem?_eq_some_iff.1 hl).1
      refine hdone d O1 _ (by omega) n1 (hI.keep _ _ _ _ hi (hc4 _).eo (hc4 _).size (fun k hk => (hc4 _).same k ?_ (fun e => ?_))) (hch.trans (hc4 _) (fun i e => .inr (by omega))) hsub (((hc4 _).same d (by omega) (by omega)).trans hk)
      · rcases hk with hk | hk
        · exact hI.lt _ _ _ _ hi hk
        · omega
      · rcases hk with hk | hk
        · exact n2 (e ▸ hk)
        · omega

end Go.Proofs.Ytcogpcalghfghaa
