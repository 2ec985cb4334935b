/-
  Segments in memory; at, Segments, Len, frames.
-/
import Derived.Test.YtknjbiineihgfaaSa
import Derived.WalkKit
import Derived.WalkSpells
import Derived.BigQuiet
import Derived.WalkSmall
import Derived.Deep.QuietTactic
import Derived.Deep.OwnRows
import Derived.IntWalk
import Derived.Maps.AppendAt
import Derived.Deep.RegionHeld3
import Derived.Deep.Cut
import Derived.BigRegion
import Derived.Deep.Slices
set_option linter.unusedVariables false
set_option linter.unusedSimpArgs false
namespace Go.Proofs.Ytknjbiineihgfaa
open Go.RowKit

/-- A segment: has it a tag, which, its frames, the outermost first. -/
structure Sg where
  has : Bool
  tag : Int
  l : List Int
/-- A segment of the program's: where its last frame lies. -/
structure Sn where
  p : Option Addr
  s : Sg
def Sn.cells (g : Sn) : List Value := [.pointer g.p, .int .i64 g.s.l.length, .int .i64 g.s.tag, .bool g.s.has]
/-- Frames from p on, the innermost first, in blocks of D. -/
def Chain (D : Nat → Prop) (w : World) : Option Addr → List Int → Prop
  | p, [] => p = none
  | p, x :: xs => ∃ (b : Nat) (q : Option Addr), p = some ⟨b, 0, none⟩ ∧ D b ∧ w.heap[b]? = some (.cells #[.int .i64 x, .pointer q] 72 (0, 0)) ∧ Chain D w q xs
theorem Chain.keep {D D' : Nat → Prop} {w w' : World} (hs : ∀ k, D k → D' k) (h : ∀ k, D k → w'.heap[k]? = w.heap[k]?) : ∀ {p : Option Addr} {xs : List Int}, Chain D w p xs → Chain D' w' p xs
  | _, [], hl => hl
  | _, _ :: _, ⟨b, q, hp, hb, hv, hr⟩ => ⟨b, q, hp, hs b hb, (h b hb).trans hv, Chain.keep hs h hr⟩
theorem Chain.lt {D : Nat → Prop} {w : World} : ∀ {p : Option Addr} {xs : List Int}, Chain D w p xs → ∀ a, p = some a → a.block < w.heap.size
  | _, [], hl, a, e => by rw [hl] at e; cases e
  | _, _ :: _, ⟨b, q, hp, hb, hv, hr⟩, a, e => by rw [hp] at e; cases e; exact (Array.getElem?_eq_some_iff.1 hv).1

/-- Four cells of a segment from an address on. -/
def SegAt (w : World) (c o : Nat) (g : Sn) : Prop :=
  w.cell? ⟨c, o, none⟩ = some (.pointer g.p) ∧ w.cell? ⟨c, o + 1, none⟩ = some (.int .i64 g.s.l.length) ∧ w.cell? ⟨c, o + 2, none⟩ = some (.int .i64 g.s.tag) ∧ w.cell? ⟨c, o + 3, none⟩ = some (.bool g.s.has)

set_option maxHeartbeats 1000000 in
theorem segments_any (w : World) (b n : Nat) (a : Option Addr) (cap : Nat) (h : w.cell? ⟨b, 0, none⟩ = some (.slice a n cap)) (hn : n < 1000000000000) :
    Calls Try.prog 22 #[.pointer (some ⟨b, 0, none⟩)] w fun e w' => e = .returned (.int .i64 (n + 1 : Nat)) ∧ w' = w := by
  have hw : IntKind.i64.wrap ((n : Int) + 1) = (n : Int) + 1 := IntWalk.i64_in _ (by omega)
  go_enter Try.func22, Try.ntmps22
  go_wp2
  go_ret
  exact ⟨by simp, rfl⟩

set_option maxHeartbeats 1000000 in
theorem len_any (w : World) (b : Nat) (c : Int) (h : w.cell? ⟨b, 5, none⟩ = some (.int .i64 c)) :
    Calls Try.prog 21 #[.pointer (some ⟨b, 0, none⟩)] w fun e w' => e = .returned (.int .i64 c) ∧ w' = w := by
  go_enter Try.func21, Try.ntmps21
  go_wp2
  go_ret
  exact ⟨rfl, rfl⟩

set_option maxHeartbeats 1000000 in
theorem at_inner (w : World) (b n : Nat) (a : Option Addr) (cap : Nat) (h : w.cell? ⟨b, 0, none⟩ = some (.slice a n cap)) :
    Calls Try.prog 32 #[.pointer (some ⟨b, 0, none⟩), .int .i64 n] w fun e w' => e = .returned (.pointer (some ⟨b, 1, none⟩)) ∧ w' = w := by
  go_enter Try.func32, Try.ntmps32
  go_wp2
  all_goals
    go_ret
    exact ⟨rfl, rfl⟩

set_option maxHeartbeats 1000000 in
theorem at_outer (w : World) (b n i : Nat) (g : Nat) (cap : Nat) (h : w.cell? ⟨b, 0, none⟩ = some (.slice (some ⟨g, 0, none⟩) n cap)) (hi : i < n) :
    Calls Try.prog 32 #[.pointer (some ⟨b, 0, none⟩), .int .i64 i] w fun e w' => e = .returned (.pointer (some ⟨g, i * 4, none⟩)) ∧ w' = w := by
  have hne : ¬ ((i : Int) = (n : Int)) := by omega
  go_enter Try.func32, Try.ntmps32
  go_wp2
  all_goals
    go_ret
    exact ⟨rfl, rfl⟩

theorem Try.info3 : (Try.prog.info? 3).map (fun i => (i.zero, i.size, i.bytes)) = some (some (.int .i64 0), 1, 8) := by kernel_rfl
theorem hid {p : Prop} (h : p) : Hid p := h

theorem made_all (z : Value) (n : Nat) : madeCells #[z] n = Array.replicate n z := by
  apply Array.ext
  · simp [madeCells]
  · intro i h1 h2
    simp [madeCells, Nat.mod_one]
/-- The row that frames fills from behind: the last ones stand; p leads to those that are to come. -/
def FrIn (D : Nat → Prop) (w wr : World) (l : List Int) (p : Option Addr) (k : Nat) : Prop :=
  Ch (fun _ => False) w wr ∧ ∃ pre done, l = pre ++ done ∧ pre.length = k ∧ Chain D w p pre.reverse ∧ wr.heap[w.heap.size]? = some (.cells ((List.replicate k 0 ++ done).map (Value.int .i64)).toArray 3 (0, 0))
theorem FrIn.drew {D : Nat → Prop} {w wr : World} {l : List Int} {p : Option Addr} {k : Nat} (h : FrIn D w wr l p k) : FrIn D w wr.drew l p k :=
  ⟨h.1.trans (Ch.drew _ _) (fun _ h => .inl h), h.2⟩
theorem FrIn.step {D : Nat → Prop} {w wr : World} {l : List Int} {p : Option Addr} {k : Nat} (h : FrIn D w wr l p (k + 1)) :
    ∃ (b : Nat) (q : Option Addr) (x : Int), p = some ⟨b, 0, none⟩ ∧ wr.cell? ⟨b, 0, none⟩ = some (.int .i64 x) ∧ wr.cell? ⟨b, 1, none⟩ = some (.pointer q) ∧ (∃ v, wr.cell? ⟨w.heap.size, k, none⟩ = some v) ∧ wr.frozen? ⟨w.heap.size, k, none⟩ = false ∧ (wr.setCell ⟨w.heap.size, k, none⟩ (.int .i64 x)).cell? ⟨b, 1, none⟩ = some (.pointer q) ∧
      FrIn D w (wr.setCell ⟨w.heap.size, k, none⟩ (.int .i64 x)) l q k := by
  obtain ⟨hc, pre, done, e, hk, hch, hr⟩ := h
  obtain ⟨pre, x, rfl⟩ : ∃ pre' x, pre = pre' ++ [x] := by
    rcases List.eq_nil_or_concat pre with h | ⟨a, b, h⟩
    · subst h; simp at hk
    · exact ⟨a, b, by simpa using h⟩
  rw [List.reverse_append] at hch
  obtain ⟨b, q, hp, hD, hb, hch⟩ := hch
  have hlt : b < w.heap.size := (Array.getElem?_eq_some_iff.1 hb).1
  have hb2 := (hc.same b hlt (fun h => h)).trans hb
  have hpk : pre.length = k := by simpa using hk
  refine ⟨b, q, x, hp, by simp [World.cell?, hb2], by simp [World.cell?, hb2], ⟨.int .i64 0, ?_⟩, by simp [World.frozen?, hr], ?_, ?_, pre, x :: done, by simp [e], hpk, hch, ?_⟩
  · simp [World.cell?, hr]
    rw [List.getElem?_append_left (by simp)]
    simp
  · rw [World.cell?, Below.heap_setCell _ _ _ b (by simp; omega)]
    simp [hb2]
  · exact hc.trans (O1 := fun i => w.heap.size ≤ i) (Ch.setCell _ _ _ (Nat.le_refl _)) (fun i h => .inr h)
  · rw [setCell_eq_setRow _ _ k _ _ _ _ hr]
    rw [setRow_heap _ _ _ _ _ _ hr]
    simp [List.set_append, List.replicate_succ']

set_option maxHeartbeats 4000000 in
theorem frames_any (w : World) (D : Nat → Prop) (c o : Nat) (g : Sn) (h : SegAt w c o g) (hch : Chain D w g.p g.s.l.reverse) (hl : g.s.l.length < 1000000000) :
    Calls Try.prog 46 #[.pointer (some ⟨c, o, none⟩)] w fun e w' => e = .returned (.slice (some ⟨w.heap.size, 0, none⟩) g.s.l.length g.s.l.length) ∧
      w'.heap[w.heap.size]? = some (.cells (g.s.l.map (Value.int .i64)).toArray 3 (0, 0)) ∧ Ch (fun _ => False) w w' := by
  obtain ⟨h0, h1, h2, h3⟩ := h
  obtain ⟨p, has, tag, l⟩ := g
  dsimp only at *
  have hcl : c < w.heap.size := block_lt_of_cell h0
  have hmk := run_make_row' (P := Try.prog) 39 3 (.int .i64 0) 8 Try.underlying39 Try.info3 rfl .i64 .i64 l.length (by omega) (by omega)
  have hw : IntKind.i64.wrap ((l.length : Int) - 1) = (l.length : Int) - 1 := IntWalk.i64_in _ (by omega)
  have hmix : Try.prog.follows .mixedOrders = true := by kernel_rfl
  go_enter Try.func46, Try.ntmps46
  go_upto_region 2 with (fail)
  obtain ⟨W, hW⟩ : ∃ W, w.alloc (.cells (madeCells #[.int .i64 0] l.length) 3) = W := ⟨_, rfl⟩
  have hcW : Ch (fun _ => False) w W := by rw [← hW]; exact Ch.alloc _ _ _
  have HB : Hid (FrIn D w W l p l.length) := by
    refine ⟨hcW, l, [], by simp, rfl, hch, ?_⟩
    rw [← hW, World.alloc_heap_new]
    simp [made_all]
  have c0 : W.cell? ⟨c, o, none⟩ = some (.pointer p) := (hcW.cell (p := ⟨c, o, none⟩) hcl (fun h => h)).trans h0
  have c1 : W.cell? ⟨c, o + 1, none⟩ = some (.int .i64 l.length) := (hcW.cell (p := ⟨c, o + 1, none⟩) hcl (fun h => h)).trans h1
  clear hcW h0 h1 h2 h3 hmk hch
  rw [hW]
  clear hW
  go_region_held3 (fun w' => w'.cell? ⟨c, o, none⟩ = some (.pointer p) ∧ w'.cell? ⟨c, o + 1, none⟩ = some (.int .i64 l.length)) (go_keep) (fail)
  have HB2 : Hid (FrIn D w W.drew l p l.length) := HB.out.drew
  clear HB c0 c1
  generalize W.drew = V at HB2 ⊢
  go_wp2
  go_loopw [4, 5] (fun i f wr => ∃ (k : Nat) (q : Option Addr), i = .int .i64 ((k : Int) - 1) ∧ f = .pointer q ∧ k ≤ l.length ∧ Hid (FrIn D w wr l q k)) (fun i _ _ => (intOf i + 1).toNat)
  case atStart => exact ⟨l.length, p, rfl, rfl, Nat.le_refl _, HB2⟩
  case round =>
    obtain ⟨k, q, rfl, rfl, hk, HI⟩ := hrel
    cases k with
    | zero =>
      obtain ⟨hc, pre, done, e, hk0, hch, hr⟩ := HI.out
      obtain rfl : pre = [] := by simpa using hk0
      obtain rfl : q = none := hch
      obtain rfl : l = done := by simpa using e
      go_wp2
      go_ret
      exact ⟨rfl, by simpa using hr, hc⟩
    | succ k =>
      obtain ⟨b, q2, x, rfl, e0, e1, ⟨v, ev⟩, ef, e1', HI2⟩ := HI.out.step
      have HI2 := hid HI2
      clear HI
      have hw2 : IntKind.i64.wrap (((k + 1 : Nat) : Int) - 1 - 1) = (k : Int) - 1 := by rw [IntWalk.i64_in _ (by omega)]; omega
      have hks : ((k + 1 : Nat) : Int) - 1 = k := by omega
      rw [hks] at hw2 ⊢
      go_upto_region 4 with (fail)
      generalize wr.setCell ⟨w.heap.size, k, none⟩ (.int .i64 x) = V2 at e1' HI2 ⊢
      go_region_held3 (fun w' => w'.cell? ⟨b, 1, none⟩ = some (.pointer q2)) (go_keep) (fail)
      go_wp2
      go_roundw
      case rel => exact ⟨k, q2, rfl, rfl, by omega, HI2.out.drew⟩
      case measure => simp [intOf]

end Go.Proofs.Ytknjbiineihgfaa
