/-
  A range over a function whose rounds all go on; who owns which blocks is said by a set. For every program. The function may be a method's value.
  Segments in memory; at, Segments, Len, frames.
  Ranging over the segments of a row: all and what it answers.
-/
import Derived.RangeFuncNested
import Derived.RangeFuncBound
import Derived.RangeFuncCalls
import Derived.RangeFuncLeaves
import Derived.Test.YtpjbfdpblgjmfaaGreatDoorMO
import Derived.Test.YtpjbfdpblgjmfaaGreatDoorMA
import Derived.WalkKit
import Derived.WalkSpells
import Derived.BigQuiet
import Derived.WalkSmall
import Derived.Deep.QuietTactic
import Derived.Deep.OwnRows
import Derived.IntWalk
import Derived.Maps.AppendAt
import Derived.Deep.RegionHeld3
import Derived.Deep.Cut
import Derived.BigRegion
import Derived.Deep.Slices
import Derived.Shelf.Abstract
import Derived.Shelf.RegionOpen
import Derived.OwnWalkIn
import Derived.TacticsInMore
import Derived.LoopNIn
import Derived.LoopIn
set_option linter.unusedVariables false
set_option linter.unusedSimpArgs false
namespace Go.Proofs.YtpjbfdpblgjmfaaGreatDoor
open Go.RowKit

theorem Ch.put {O : Nat → Prop} (w : World) (l : Nat) (o : Obj) (hl : O l) : Ch O w (w.putObj l o) :=
  ⟨by simp, fun k _ ho => World.putObj_heap_other (fun e => ho (e ▸ hl)), rfl, rfl⟩
/-- A caller's word of its own blocks: it stands while these stand, and what lay below B. -/
structure Owns {α : Type} (B : Nat) (J : α → (Nat → Prop) → World → Prop) : Prop where
  keep : ∀ s O W W', J s O W → W'.os = W.os ∧ W'.output = W.output → W.heap.size ≤ W'.heap.size → (∀ k, O k ∨ k < B → W'.heap[k]? = W.heap[k]?) → J s O W'
  lt : ∀ s O W k, J s O W → O k → k < W.heap.size

/-- What a function that is ranged over does, if every round goes on: xs come, in their order; of what lay, blocks of the caller's alone are turned. D: blocks that it reads. -/
def Goes {α : Type} (P : Program) (g : Nat) (bd lb : Array Value) (encs : α → Array Value) (xs : List α) (D : Nat → Prop) (w : World) : Prop :=
  ∀ (l : Nat) (J : List α → (Nat → Prop) → World → Prop) (O : Nat → Prop), Owns w.heap.size J → (∀ k, D k → ¬ O k) →
    (∀ pre x O1 W1, J pre O1 W1 → (∃ rest, xs = pre ++ x :: rest) → YieldAt Fence.wide 0 P l (encs x) W1 fun e W' =>
      e = .returned (.bool true) ∧ ∃ O2, J (pre ++ [x]) O2 W' ∧ Ch O1 W1 W' ∧ ∀ k, O2 k → O1 k ∨ W1.heap.size ≤ k) →
    J [] O w → CallsIn Fence.wide 0 P g (bd ++ #[.func (.yield l) #[] #[]] ++ lb) w fun e W' =>
      (∃ v, e = .returned v) ∧ ∃ O2, J xs O2 W' ∧ Ch O w W' ∧ ∀ k, O2 k → O k ∨ w.heap.size ≤ k

theorem wp_range {α : Type} {P : Program} {g : Operand} {ps : Array Tmp} {assign body : Code} {Q : Exit → Act → World → Prop} {a : Act} {w : World}
    {gf : Nat} {bd lb : Array Value} (hg : a.eval g = .func (.func gf) bd lb) (eg : ∀ args w, (callFunc gf args).run P w = .ok (.enter gf args) w)
    {encs : α → Array Value} {xs : List α} {D : Nat → Prop} (hseq : ∀ W1, Ch (fun _ => False) w W1 → Goes P gf bd lb encs xs D W1) (hD : ∀ k, D k → k < w.heap.size) (hps : ∀ x, (encs x).size = ps.size)
    {O : Nat → Prop} (hDO : ∀ k, D k → ¬ O k) (I : List α → (Nat → Prop) → World → Prop) (hI : Owns w.heap.size I) (h0 : I [] O w) (a₁ : α → Act)
    (hassign : ∀ (l : Nat) (x : α) (W : World) (K : Act → World → Prop), K (a₁ x) W →
      assign.wpIn (Fence.wide.inRound l) 0 P (Exit.then K (fun _ _ _ => False)) { tmps := (ps.zip (encs x)).foldl (fun t (p, v) => t.setIfInBounds p v) a.tmps, defers := [] } W)
    (hbody : ∀ (l : Nat) (pre : List α) (x : α) (O1 : Nat → Prop) (W : World), I pre O1 W → (∃ rest, xs = pre ++ x :: rest) → (∀ k, O1 k → O k ∨ w.heap.size ≤ k) → Ch O w W →
      body.wpIn (Fence.wide.inRound l) 0 P (fun e _ W' => e = .normal ∧ ∃ O2, I (pre ++ [x]) O2 W' ∧ Ch O1 W W' ∧ ∀ k, O2 k → O1 k ∨ W.heap.size ≤ k) (a₁ x) W)
    (hdone : ∀ (D1 : Nat) (O2 : Nat → Prop) (W : World), w.heap.size ≤ D1 → ¬ O2 D1 → I xs O2 W → Ch O w W → (∀ k, O2 k → O k ∨ w.heap.size ≤ k) → W.heap[D1]? = some (.deferred (some [])) →
      Q .normal { a with defers := { target := .collected D1, args := #[] } :: a.defers } W) :
    (Code.rangeFunc g ps assign body).wpIn Fence.wide 0 P Q a w := by
  refine wpIn_rangeFunc ?_
  intro fn hfn
  obtain ⟨rec, hrec⟩ : ∃ rec : LoopState → Option Code → Loop, rec = fun st pe => { state := st, pending := pe, fn, tmps := a.tmps, params := ps, assign, body, defers := w.heap.size } := ⟨_, rfl⟩
  obtain ⟨W1, hW1⟩ : ∃ W1, (w.alloc (.deferred (some []))).alloc (.loop (rec .ready none)) = W1 := ⟨_, rfl⟩
  obtain ⟨d, hd⟩ : ∃ d, d = w.heap.size := ⟨_, rfl⟩
  have hL1 : W1.heap[d + 1]? = some (.loop (rec .ready none)) := by
    rw [← hW1, hd]; have := World.alloc_heap_new (w.alloc (.deferred (some []))) (.loop (rec .ready none)); rwa [World.size_alloc] at this
  have hK1 : W1.heap[d]? = some (.deferred (some [])) := by
    rw [← hW1, hd]; exact (Below.heap_alloc _ _ _ (by simp)).trans (World.alloc_heap_new w _)
  have hc1 : ∀ X, Ch X w W1 := fun X => by rw [← hW1]; exact (Ch.alloc X _ _).trans (Ch.alloc X _ _) (fun i h => .inl h)
  have hs1 : W1.heap.size = d + 2 := by rw [← hW1, hd]; simp
  have hI1 : I [] O W1 := hI.keep _ _ _ _ h0 (hc1 O).eo (hc1 O).size (fun k hk => (hc1 (fun _ => False)).same k (by rcases hk with hk | hk; exact hI.lt _ _ _ _ h0 hk; exact hk) (fun h => h))
  refine ⟨d + 1, [{ target := .collected d, args := #[] }], W1, { target := .fn (.func gf) lb, args := bd ++ #[.func (.yield (d + 1)) #[] #[]] }, W1, gf,
    bd ++ #[.func (.yield (d + 1)) #[] #[]] ++ lb, W1, ?_, ?_, ?_, ?_, fun h => (by cases h), ?_⟩
  · rw [← hW1, hrec, hd]; exact run_enterLoop_outer _ _ _ _ _
  · simp only [resolve, hg]
    simp [go_sem]
  · intro f' hf'; trivial
  · simp [invoke, go_sem, eg]
  · -- what the function holds of us: I, with the two blocks of the loop's own
    refine (hseq W1 (hc1 _) (d + 1)
      (fun pre O' W => ∃ O1, (I pre O1 W ∧ Ch O w W ∧ (∀ k, D k → ¬ O1 k) ∧ ∀ k, O1 k → O k ∨ w.heap.size ≤ k) ∧ (∀ k, O' k ↔ O1 k ∨ k = d ∨ k = d + 1) ∧ ¬ O1 d ∧ ¬ O1 (d + 1) ∧ W.heap[d + 1]? = some (.loop (rec .ready none)) ∧ W.heap[d]? = some (.deferred (some [])))
      (fun k => O k ∨ k = d ∨ k = d + 1) ⟨?_, ?_⟩ ?_ ?_ ?_).mono ?_
    · rintro s O' W W' ⟨O1, ⟨hi, hch, hdi, hsub⟩, hO', n1, n2, hl, hk⟩ heo hsz hsm
      have el := hsm (d + 1) (.inl ((hO' _).2 (.inr (.inr rfl))))
      have ek := hsm d (.inl ((hO' _).2 (.inr (.inl rfl))))
      refine ⟨O1, ⟨hI.keep _ _ _ _ hi heo hsz (fun k hk => hsm k ?_), ⟨Nat.le_trans hch.size hsz, fun k hk ho => (hsm k (.inr (by omega))).trans (hch.same k hk ho), heo.1.trans hch.eo.1, heo.2.trans hch.eo.2⟩, hdi, hsub⟩, hO', n1, n2, el.trans hl, ek.trans hk⟩
      rcases hk with hk | hk
      · exact .inl ((hO' _).2 (.inl hk))
      · exact .inr (by omega)
    · rintro s O' W k ⟨O1, ⟨hi, hch, hdi, hsub⟩, hO', n1, n2, hl, hk⟩ hk'
      rcases (hO' _).1 hk' with h | h | h
      · exact hI.lt _ _ _ _ hi h
      · subst h; exact (Array.getElem?_eq_some_iff.1 hk).1
      · subst h; exact (Array.getElem?_eq_some_iff.1 hl).1
    · rintro k hk (h | h | h)
      · exact hDO k hk h
      · have := hD k hk; omega
      · have := hD k hk; omega
    · -- a round
      rintro pre x O' W ⟨O1, ⟨hi, hch, hdi, hsub⟩, hO', n1, n2, hl, hk⟩ hx
      have hlt : d + 1 < W.heap.size := (Array.getElem?_eq_some_iff.1 hl).1
      have hy := run_yield (P := P) (args := encs x) hl (by rw [hrec]; exact hps x)
      rw [hrec] at hy
      refine ⟨fn, _, assign, body, hy, roundIn_of_wpIn hfn (hassign _ x W _ ⟨_, run_beginRound hl (by rw [hrec]), ?_⟩)⟩
      clear hy
      obtain ⟨W2, hW2⟩ : ∃ W2, W.putObj (d + 1) (.loop { rec .ready none with state := .busy }) = W2 := ⟨_, rfl⟩
      have hl2 : W2.heap[d + 1]? = some (.loop { rec .ready none with state := .busy }) := by rw [← hW2]; exact World.putObj_heap_same hlt
      have hs2 : W2.heap.size = W.heap.size := by rw [← hW2]; simp
      have hc2 : Ch (fun k => k = d + 1) W W2 := by rw [← hW2]; exact Ch.put _ _ _ rfl
      rw [hW2]
      have hk2 := (hc2.same d (by omega) (by omega)).trans hk
      have hi2 : I pre O1 W2 := hI.keep _ _ _ _ hi hc2.eo (by omega) (fun k hk => hc2.same k (by rcases hk with hk | hk; exact hI.lt _ _ _ _ hi hk; have := hch.size; omega) (fun e => by rcases hk with hk | hk; exact n2 (e ▸ hk); omega))
      refine wpIn_mono (hbody _ pre x O1 W2 hi2 hx hsub (hch.trans hc2 (fun i e => .inr (by omega)))) ?_
      rintro e a3 W3 ⟨rfl, O2, hi3, hc3, hsub3⟩
      have hl3 := (hc3.same _ (by omega) n2).trans hl2
      have hr3 := run_endRound (P := P) none hl3
      refine ⟨_, _, hr3, rfl, fun k => O2 k ∨ k = d ∨ k = d + 1, ?_, ?_, ?_⟩
      · have hs3 := hc3.size
        have m1 : ¬ O2 d := fun h => by rcases hsub3 _ h with h | h; exact n1 h; omega
        have m2 : ¬ O2 (d + 1) := fun h => by rcases hsub3 _ h with h | h; exact n2 h; omega
        have hc4 : Ch (fun k => k = d + 1) W3 (W3.putObj (d + 1) (.loop { ({ rec .ready none with state := .busy } : Loop) with state := if (none : Option Code).isNone then .ready else .done, pending := none })) := Ch.put _ _ _ rfl
        refine ⟨O2, ⟨hI.keep _ _ _ _ hi3 hc4.eo hc4.size (fun k hk => hc4.same k ?_ (fun e => ?_)), ?_, fun k hk h => ?_, fun k h => ?_⟩, fun k => Iff.rfl, m1, m2, ?_, ?_⟩
        · rcases hk with hk | hk
          · exact hI.lt _ _ _ _ hi3 hk
          · have := hch.size; omega
        · rcases hk with hk | hk
          · exact m2 (e ▸ hk)
          · omega
        · exact ((hch.trans hc2 (fun i e => .inr (by omega))).trans hc3 (fun i e => hsub i e)).trans hc4 (fun i e => .inr (by omega))
        · rcases hsub3 _ h with h | h
          · exact hdi k hk h
          · have := hD k hk; have := hch.size; omega
        · rcases hsub3 _ h with h | h
          · exact hsub k h
          · have := hch.size; exact .inr (by omega)
        · rw [World.putObj_heap_same (Array.getElem?_eq_some_iff.1 hl3).1, hrec]; rfl
        · exact (hc4.same d (by omega) (by omega)).trans ((hc3.same d (by omega) n1).trans hk2)
      · refine ⟨by have := hc3.size; simp; omega, fun k hk ho => ?_, hc3.eo.1.trans hc2.eo.1, hc3.eo.2.trans hc2.eo.2⟩
        have ho1 : ¬ O1 k := fun h => ho ((hO' _).2 (.inl h))
        have hkd : k ≠ d + 1 := fun h => ho ((hO' _).2 (.inr (.inr h)))
        exact (World.putObj_heap_other hkd).trans ((hc3.same k (by omega) ho1).trans (hc2.same k hk hkd))
      · rintro k (h | h | h)
        · rcases hsub3 _ h with h | h
          · exact .inl ((hO' _).2 (.inl h))
          · exact .inr (by omega)
        · exact .inl ((hO' _).2 (.inr (.inl h)))
        · exact .inl ((hO' _).2 (.inr (.inr h)))
    · exact ⟨O, ⟨hI1, hc1 O, hDO, fun k h => .inl h⟩, fun k => Iff.rfl, fun h => by have := hI.lt _ _ _ _ h0 h; omega, fun h => by have := hI.lt _ _ _ _ h0 h; omega, hL1, hK1⟩
    · rintro e W2 ⟨⟨v, rfl⟩, O', ⟨O1, ⟨hi, hch, hdi, hsub⟩, hO', n1, n2, hl, hk⟩, hc, hs⟩
      have hr := run_endLoop (P := P) hl (by rw [hrec]; simp)
      refine ⟨_, _, hr, ?_⟩
      have ep : (rec .ready none).pending = none := by rw [hrec]
      rw [ep]
      have hc4 : ∀ o, Ch (fun k => k = d + 1) W2 (W2.putObj (d + 1) o) := fun o => Ch.put _ _ _ rfl
      have hlt : d + 1 < W2.heap.size := (Array.getElem?_eq_some_iff.1 hl).1
      refine hdone d O1 _ (by omega) n1 (hI.keep _ _ _ _ hi (hc4 _).eo (hc4 _).size (fun k hk => (hc4 _).same k ?_ (fun e => ?_))) (hch.trans (hc4 _) (fun i e => .inr (by omega))) hsub (((hc4 _).same d (by omega) (by omega)).trans hk)
      · rcases hk with hk | hk
        · exact hI.lt _ _ _ _ hi hk
        · omega
      · rcases hk with hk | hk
        · exact n2 (e ▸ hk)
        · omega

end Go.Proofs.YtpjbfdpblgjmfaaGreatDoor

namespace Go.Proofs.YtpjbfdpblgjmfaaGreatDoor
open Go.RowKit

/-- A segment: has it a tag, which, its frames, the outermost first. -/
structure Sg where
  has : Bool
  tag : Option Addr
  l : List (Option Addr)
/-- A segment of the program's: where its last frame lies. -/
structure Sn where
  p : Option Addr
  s : Sg
def Sn.cells (g : Sn) : List Value := [.pointer g.p, .int .i64 g.s.l.length, .pointer g.s.tag, .bool g.s.has]
/-- Frames from p on, the innermost first, in blocks of D. -/
def Chain (D : Nat → Prop) (w : World) : Option Addr → List (Option Addr) → Prop
  | p, [] => p = none
  | p, x :: xs => ∃ (b : Nat) (q : Option Addr), p = some ⟨b, 0, none⟩ ∧ D b ∧ w.heap[b]? = some (.cells #[.pointer x, .pointer q] 173 (0, 0)) ∧ Chain D w q xs
theorem Chain.keep {D D' : Nat → Prop} {w w' : World} (hs : ∀ k, D k → D' k) (h : ∀ k, D k → w'.heap[k]? = w.heap[k]?) : ∀ {p : Option Addr} {xs : List (Option Addr)}, Chain D w p xs → Chain D' w' p xs
  | _, [], hl => hl
  | _, _ :: _, ⟨b, q, hp, hb, hv, hr⟩ => ⟨b, q, hp, hs b hb, (h b hb).trans hv, Chain.keep hs h hr⟩
theorem Chain.lt {D : Nat → Prop} {w : World} : ∀ {p : Option Addr} {xs : List (Option Addr)}, Chain D w p xs → ∀ a, p = some a → a.block < w.heap.size
  | _, [], hl, a, e => by rw [hl] at e; cases e
  | _, _ :: _, ⟨b, q, hp, hb, hv, hr⟩, a, e => by rw [hp] at e; cases e; exact (Array.getElem?_eq_some_iff.1 hv).1

/-- Four cells of a segment from an address on. -/
def SegAt (w : World) (c o : Nat) (g : Sn) : Prop :=
  w.cell? ⟨c, o, none⟩ = some (.pointer g.p) ∧ w.cell? ⟨c, o + 1, none⟩ = some (.int .i64 g.s.l.length) ∧ w.cell? ⟨c, o + 2, none⟩ = some (.pointer g.s.tag) ∧ w.cell? ⟨c, o + 3, none⟩ = some (.bool g.s.has)

set_option maxHeartbeats 1000000 in
theorem segments_any (w : World) (b n : Nat) (a : Option Addr) (cap : Nat) (h : w.cell? ⟨b, 0, none⟩ = some (.slice a n cap)) (hn : n < 1000000000000) :
    Calls Tryz.prog 97 #[.pointer (some ⟨b, 0, none⟩)] w fun e w' => e = .returned (.int .i64 (n + 1 : Nat)) ∧ w' = w := by
  have hw : IntKind.i64.wrap ((n : Int) + 1) = (n : Int) + 1 := IntWalk.i64_in _ (by omega)
  go_enter Tryz.func97, Tryz.ntmps97
  go_wp2
  go_ret
  exact ⟨by simp, rfl⟩

set_option maxHeartbeats 1000000 in
theorem at_inner (w : World) (b n : Nat) (a : Option Addr) (cap : Nat) (h : w.cell? ⟨b, 0, none⟩ = some (.slice a n cap)) :
    Calls Tryz.prog 66 #[.pointer (some ⟨b, 0, none⟩), .int .i64 n] w fun e w' => e = .returned (.pointer (some ⟨b, 1, none⟩)) ∧ w' = w := by
  go_enter Tryz.func66, Tryz.ntmps66
  go_wp2
  all_goals
    go_ret
    exact ⟨rfl, rfl⟩

set_option maxHeartbeats 1000000 in
theorem at_outer (w : World) (b n i : Nat) (g : Nat) (cap : Nat) (h : w.cell? ⟨b, 0, none⟩ = some (.slice (some ⟨g, 0, none⟩) n cap)) (hi : i < n) :
    Calls Tryz.prog 66 #[.pointer (some ⟨b, 0, none⟩), .int .i64 i] w fun e w' => e = .returned (.pointer (some ⟨g, i * 4, none⟩)) ∧ w' = w := by
  have hne : ¬ ((i : Int) = (n : Int)) := by omega
  go_enter Tryz.func66, Tryz.ntmps66
  go_wp2
  all_goals
    go_ret
    exact ⟨rfl, rfl⟩

theorem Tryz.infoPC : (Tryz.prog.info? 53).map (fun i => (i.zero, i.size, i.bytes)) = some (some (.pointer none), 1, 8) := by kernel_rfl

theorem made_all (z : Value) (n : Nat) : madeCells #[z] n = Array.replicate n z := by
  apply Array.ext
  · simp [madeCells]
  · intro i h1 h2
    simp [madeCells, Nat.mod_one]
/-- The row that frames fills from behind: the last ones stand; p leads to those that are to come. -/
def FrIn (D : Nat → Prop) (w wr : World) (l : List (Option Addr)) (p : Option Addr) (k : Nat) : Prop :=
  Ch (fun _ => False) w wr ∧ ∃ pre done, l = pre ++ done ∧ pre.length = k ∧ Chain D w p pre.reverse ∧ wr.heap[w.heap.size]? = some (.cells ((List.replicate k none ++ done).map Value.pointer).toArray 53 (0, 0))
theorem FrIn.drew {D : Nat → Prop} {w wr : World} {l : List (Option Addr)} {p : Option Addr} {k : Nat} (h : FrIn D w wr l p k) : FrIn D w wr.drew l p k :=
  ⟨h.1.trans (Ch.drew _ _) (fun _ h => .inl h), h.2⟩
theorem FrIn.step {D : Nat → Prop} {w wr : World} {l : List (Option Addr)} {p : Option Addr} {k : Nat} (h : FrIn D w wr l p (k + 1)) :
    ∃ (b : Nat) (q : Option Addr) (x : Option Addr), p = some ⟨b, 0, none⟩ ∧ wr.cell? ⟨b, 0, none⟩ = some (.pointer x) ∧ wr.cell? ⟨b, 1, none⟩ = some (.pointer q) ∧ (∃ v, wr.cell? ⟨w.heap.size, k, none⟩ = some v) ∧ wr.frozen? ⟨w.heap.size, k, none⟩ = false ∧ (wr.setCell ⟨w.heap.size, k, none⟩ (.pointer x)).cell? ⟨b, 1, none⟩ = some (.pointer q) ∧
      FrIn D w (wr.setCell ⟨w.heap.size, k, none⟩ (.pointer x)) l q k := by
  obtain ⟨hc, pre, done, e, hk, hch, hr⟩ := h
  obtain ⟨pre, x, rfl⟩ : ∃ pre' x, pre = pre' ++ [x] := by
    rcases List.eq_nil_or_concat pre with h | ⟨a, b, h⟩
    · subst h; simp at hk
    · exact ⟨a, b, by simpa using h⟩
  rw [List.reverse_append] at hch
  obtain ⟨b, q, hp, hD, hb, hch⟩ := hch
  have hlt : b < w.heap.size := (Array.getElem?_eq_some_iff.1 hb).1
  have hb2 := (hc.same b hlt (fun h => h)).trans hb
  have hpk : pre.length = k := by simpa using hk
  refine ⟨b, q, x, hp, by simp [World.cell?, hb2], by simp [World.cell?, hb2], ⟨.pointer none, ?_⟩, by simp [World.frozen?, hr], ?_, ?_, pre, x :: done, by simp [e], hpk, hch, ?_⟩
  · simp [World.cell?, hr]
    rw [List.getElem?_append_left (by simp)]
    simp
  · rw [World.cell?, Below.heap_setCell _ _ _ b (by simp; omega)]
    simp [hb2]
  · exact hc.trans (O1 := fun i => w.heap.size ≤ i) (Ch.setCell _ _ _ (Nat.le_refl _)) (fun i h => .inr h)
  · rw [setCell_eq_setRow _ _ k _ _ _ _ hr]
    rw [setRow_heap _ _ _ _ _ _ hr]
    simp [List.set_append, List.replicate_succ']

set_option maxHeartbeats 4000000 in
theorem frames_any (w : World) (D : Nat → Prop) (c o : Nat) (g : Sn) (h : SegAt w c o g) (hch : Chain D w g.p g.s.l.reverse) (hl : g.s.l.length < 1000000000) :
    Calls Tryz.prog 78 #[.pointer (some ⟨c, o, none⟩)] w fun e w' => e = .returned (.slice (some ⟨w.heap.size, 0, none⟩) g.s.l.length g.s.l.length) ∧
      w'.heap[w.heap.size]? = some (.cells (g.s.l.map Value.pointer).toArray 53 (0, 0)) ∧ Ch (fun _ => False) w w' := by
  obtain ⟨h0, h1, h2, h3⟩ := h
  obtain ⟨p, has, tag, l⟩ := g
  dsimp only at *
  have hcl : c < w.heap.size := block_lt_of_cell h0
  have hmk := run_make_row' (P := Tryz.prog) 194 53 (.pointer none) 8 Tryz.underlying194 Tryz.infoPC rfl .i64 .i64 l.length (by omega) (by omega)
  have hw : IntKind.i64.wrap ((l.length : Int) - 1) = (l.length : Int) - 1 := IntWalk.i64_in _ (by omega)
  have hmix : Tryz.prog.follows .mixedOrders = true := by kernel_rfl
  go_enter Tryz.func78, Tryz.ntmps78
  go_upto_region 2 with (fail)
  obtain ⟨W, hW⟩ : ∃ W, w.alloc (.cells (madeCells #[.pointer none] l.length) 53) = W := ⟨_, rfl⟩
  have hcW : Ch (fun _ => False) w W := by rw [← hW]; exact Ch.alloc _ _ _
  have HB : Hid (FrIn D w W l p l.length) := by
    refine ⟨hcW, l, [], by simp, rfl, hch, ?_⟩
    rw [← hW, World.alloc_heap_new]
    simp [made_all]
  have c0 : W.cell? ⟨c, o, none⟩ = some (.pointer p) := (hcW.cell (p := ⟨c, o, none⟩) hcl (fun h => h)).trans h0
  have c1 : W.cell? ⟨c, o + 1, none⟩ = some (.int .i64 l.length) := (hcW.cell (p := ⟨c, o + 1, none⟩) hcl (fun h => h)).trans h1
  clear hcW h0 h1 h2 h3 hmk hch
  rw [hW]
  clear hW
  go_region_held3 (fun w' => w'.cell? ⟨c, o, none⟩ = some (.pointer p) ∧ w'.cell? ⟨c, o + 1, none⟩ = some (.int .i64 l.length)) (go_keep) (fail)
  have HB2 : Hid (FrIn D w W.drew l p l.length) := HB.out.drew
  clear HB c0 c1
  generalize W.drew = V at HB2 ⊢
  go_wp2
  go_loopw [4, 5] (fun i f wr => ∃ (k : Nat) (q : Option Addr), i = .int .i64 ((k : Int) - 1) ∧ f = .pointer q ∧ k ≤ l.length ∧ Hid (FrIn D w wr l q k)) (fun i _ _ => (intOf i + 1).toNat)
  case atStart => exact ⟨l.length, p, rfl, rfl, Nat.le_refl _, HB2⟩
  case round =>
    obtain ⟨k, q, rfl, rfl, hk, HI⟩ := hrel
    cases k with
    | zero =>
      obtain ⟨hc, pre, done, e, hk0, hch, hr⟩ := HI.out
      obtain rfl : pre = [] := by simpa using hk0
      obtain rfl : q = none := hch
      obtain rfl : l = done := by simpa using e
      go_wp2
      go_ret
      exact ⟨rfl, by simpa using hr, hc⟩
    | succ k =>
      obtain ⟨b, q2, x, rfl, e0, e1, ⟨v, ev⟩, ef, e1', HI2⟩ := HI.out.step
      have HI2 := hid HI2
      clear HI
      have hw2 : IntKind.i64.wrap (((k + 1 : Nat) : Int) - 1 - 1) = (k : Int) - 1 := by rw [IntWalk.i64_in _ (by omega)]; omega
      have hks : ((k + 1 : Nat) : Int) - 1 = k := by omega
      rw [hks] at hw2 ⊢
      go_upto_region 4 with (fail)
      generalize wr.setCell ⟨w.heap.size, k, none⟩ (.pointer x) = V2 at e1' HI2 ⊢
      go_region_held3 (fun w' => w'.cell? ⟨b, 1, none⟩ = some (.pointer q2)) (go_keep) (fail)
      go_wp2
      go_roundw
      case rel => exact ⟨k, q2, rfl, rfl, by omega, HI2.out.drew⟩
      case measure => simp [intOf]

end Go.Proofs.YtpjbfdpblgjmfaaGreatDoor

namespace Go.Proofs.YtpjbfdpblgjmfaaGreatDoor
open Go.RowKit Go.Shelf
attribute [local go_sem] Oper.semAt_some

/-- A row's value, out of its six cells. -/
abbrev rowV (v p s t h c : Value) : Value := .agg #[v, p, s, t, h, c]

set_option maxHeartbeats 1000000 in
theorem all_any (w : World) (v p s t h c : Value) :
    Calls Tryz.prog 76 #[rowV v p s t h c] w fun e w' => e = .returned (.func (.func 102) #[] #[.pointer (some ⟨w.heap.size, 0, none⟩)]) ∧ w' = w.alloc (.cells #[v, p, s, t, h, c] 99) := by
  go_enter Tryz.func76, Tryz.ntmps76
  unfold rowV
  go_wp2
  go_ret
  exact ⟨rfl, rfl⟩

/-- Where the segments of a row lie. -/
def places (b g n : Nat) : List (Nat × Addr) := (List.range (n + 1)).map fun i => (i, if i = n then ⟨b, 1, none⟩ else ⟨g, i * 4, none⟩)
abbrev placeV (x : Nat × Addr) : Array Value := #[.int .i64 x.1, .pointer (some x.2)]
theorem places_take (b g n k : Nat) (h : k < n + 1) : places b g n = (places b g n).take k ++ (k, if k = n then ⟨b, 1, none⟩ else ⟨g, k * 4, none⟩) :: (places b g n).drop (k + 1) := by
  have hl : k < (places b g n).length := by simp [places]; omega
  have e : (places b g n)[k] = (k, if k = n then ⟨b, 1, none⟩ else ⟨g, k * 4, none⟩) := by simp [places]
  rw [← e, ← List.drop_eq_getElem_cons hl, List.take_append_drop]
theorem places_succ (b g n k : Nat) (h : k < n + 1) : (places b g n).take (k + 1) = (places b g n).take k ++ [(k, if k = n then ⟨b, 1, none⟩ else ⟨g, k * 4, none⟩)] := by
  have hl : k < (places b g n).length := by simp [places]; omega
  rw [List.take_succ_eq_append_getElem hl]
  simp [places]

set_option maxRecDepth 100000 in
set_option maxHeartbeats 4000000 in
theorem all1_goes (w : World) (b g n : Nat) (a : Option Addr) (cap : Nat) (h : w.cell? ⟨b, 0, none⟩ = some (.slice a n cap)) (ha : n = 0 ∨ a = some ⟨g, 0, none⟩) (hn : n < 1000000000000) :
    Goes Tryz.prog 102 #[] #[.pointer (some ⟨b, 0, none⟩)] placeV (places b g n) (fun k => k = b) w := by
  intro l J O hJ hDO hY h0
  have hbl : b < w.heap.size := block_lt_of_cell h
  have hbO := hDO b rfl
  refine callsIn_of_wp Tryz.func102 rfl trivial ?_ rfl
  simp only [Tryz.ntmps102, List.size_toArray, List.length_cons, List.length_nil, Nat.reduceAdd, Nat.reduceSub, Array.replicate_succ, Array.replicate_zero, List.push_toArray, List.append_toArray, List.nil_append, List.cons_append]
  gi_wp2_with (refine ⟨trivial, rfl, (callsIn_wide.2 (segments_any w b n a cap h hn)).mono ?_⟩; rintro e w ⟨rfl, rfl⟩; dsimp only)
  gi_loopw [5] (fun i wr => ∃ (k : Nat) (O1 : Nat → Prop), i = .int .i64 k ∧ k ≤ n + 1 ∧ J ((places b g n).take k) O1 wr ∧ Ch O w wr ∧ (∀ j, O1 j → O j ∨ w.heap.size ≤ j)) (fun i _ => (n + 1) - (intOf i).toNat)
  case atStart => exact ⟨0, O, rfl, by omega, h0, Ch.refl _ _, fun _ h => .inl h⟩
  case round =>
    obtain ⟨k, O1, rfl, hk, hJk, hck, hsub⟩ := hrel
    have hc : wr.cell? ⟨b, 0, none⟩ = some (.slice a n cap) := (hck.cell (p := ⟨b, 0, none⟩) hbl hbO).trans h
    by_cases e : k = n + 1
    · subst e
      gi_wp2
      go_end0
      have et : (places b g n).take (n + 1) = places b g n := List.take_of_length_le (by simp [places])
      rw [et] at hJk
      exact ⟨⟨_, rfl⟩, O1, hJk, hck, hsub⟩
    · have hlt : k < n + 1 := by omega
      have hw : IntKind.i64.wrap ((k : Int) + 1) = ((k + 1 : Nat) : Int) := by rw [IntWalk.i64_in _ (by omega)]; omega
      obtain ⟨fn, tmps, assign, body, hy, hR⟩ := hY _ _ O1 wr hJk ⟨_, places_take b g n k hlt⟩
      have hat : Calls Tryz.prog 66 #[.pointer (some ⟨b, 0, none⟩), .int .i64 k] wr fun e w' => e = .returned (.pointer (some (if k = n then ⟨b, 1, none⟩ else ⟨g, k * 4, none⟩))) ∧ w' = wr := by
        by_cases ek : k = n
        · subst ek; rw [if_pos rfl]; exact at_inner wr b k a cap hc
        · rw [if_neg ek]
          obtain rfl : a = some ⟨g, 0, none⟩ := by rcases ha with h | h; omega; exact h
          exact at_outer wr b n k g cap hc (by omega)
      unfold placeV at hy
      generalize hq : (if k = n then (⟨b, 1, none⟩ : Addr) else ⟨g, k * 4, none⟩) = q at hy hR hat
      dsimp only at hy
      have hcond : (k : Int) < ((n + 1 : Nat) : Int) := by omega
      gi_wp2_with (refine ⟨trivial, rfl, (callsIn_wide.2 hat).mono ?_⟩; clear hat; rintro e wr ⟨rfl, rfl⟩; dsimp only)
      refine ⟨rfl, hR.mono ?_⟩
      rintro e W3 ⟨rfl, O2, hJ3, hc3, hs3⟩
      dsimp only
      gi_wp2
      go_roundw
      case rel =>
        refine ⟨k + 1, O2, by simp, by omega, ?_, hck.trans hc3 hsub, fun j hj => ?_⟩
        · rw [places_succ b g n k hlt, hq]; exact hJ3
        · rcases hs3 j hj with h | h
          · exact hsub j h
          · have := hck.size; exact .inr (by omega)
      case measure => simp [intOf]; omega
end Go.Proofs.YtpjbfdpblgjmfaaGreatDoor
