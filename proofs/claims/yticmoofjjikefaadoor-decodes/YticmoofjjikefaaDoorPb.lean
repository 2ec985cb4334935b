/-
  The program's writer in memory: room, plain, fits, isOp, widths.
-/
import Derived.Test.YticmoofjjikefaaDoorPa
import Derived.Test.YticmoofjjikefaaDoorCr
import Derived.BigRegion
set_option linter.unusedVariables false
set_option linter.unusedSimpArgs false
namespace Go.Proofs.YticmoofjjikefaaDoor
open Go.RowKit Go.Lib

/-- Of what lay there the blocks of Z stand. -/
structure Kz (Z : Nat → Prop) (w w' : World) : Prop where
  os : w'.os = w.os
  tape : w'.tape = w.tape
  output : w'.output = w.output
  size : w.heap.size ≤ w'.heap.size
  same : ∀ k, k < w.heap.size → Z k → w'.heap[k]? = w.heap[k]?
theorem Kz.refl (Z : Nat → Prop) (w : World) : Kz Z w w := ⟨rfl, rfl, rfl, Nat.le_refl _, fun _ _ _ => rfl⟩
theorem Kz.trans {Z : Nat → Prop} {a b c : World} (h : Kz Z a b) (k : Kz Z b c) : Kz Z a c :=
  ⟨k.os.trans h.os, k.tape.trans h.tape, k.output.trans h.output, Nat.le_trans h.size k.size, fun i hi hz => (k.same i (Nat.lt_of_lt_of_le hi h.size) hz).trans (h.same i hi hz)⟩
theorem Kz.mono {Z Y : Nat → Prop} {a b : World} (h : Kz Z a b) (hs : ∀ k, Y k → Z k) : Kz Y a b := ⟨h.os, h.tape, h.output, h.size, fun i hi hz => h.same i hi (hs i hz)⟩
theorem Kz.alloc (Z : Nat → Prop) (w : World) (o : Obj) : Kz Z w (w.alloc o) := ⟨rfl, rfl, rfl, by simp, fun k hk _ => Below.heap_alloc w o k hk⟩
theorem Kz.grown {Z : Nat → Prop} {w w' : World} {b : Option Nat} (h : w.grownBy w' b) (hz : ∀ k, Z k → some k ≠ b) : Kz Z w w' :=
  ⟨h.os, h.tape, h.output, h.size, fun k hk hk2 => h.block k hk (hz k hk2)⟩
theorem Kz.below {B : Nat} {w w' : World} (h : Kz (fun k => k < B) w w') (hB : B ≤ w.heap.size) : Below B w w' :=
  ⟨h.os, h.tape, h.output, h.size, fun k hk => h.same k (by omega) hk⟩
theorem Kz.cell {Z : Nat → Prop} {w w' : World} (h : Kz Z w w') {b o : Nat} {v : Value} (hz : Z b) (hc : w.cell? ⟨b, o, none⟩ = some v) : w'.cell? ⟨b, o, none⟩ = some v := by
  have hl : b < w.heap.size := block_lt_of_cell hc
  rw [← hc]
  simp only [World.cell?, h.same b hl hz]

/-- A writer in the block p, its bytes in v's row. -/
structure WM (w : World) (p : Nat) (v : Value) (s : Cd.WSt) : Prop where
  blk : w.heap[p]? = some (.cells #[v, .bool s.2, .bool (decide (4000000 < s.1.length))] 69 (0, 0))
  row : ∃ l, ByRow w 0 v l ∧ l.length ≤ 4000000 ∧ (s.1.length ≤ 4000000 → l = s.1)
  ne : v.ownBlock ≠ some p
/-- A writer whose blocks are none of Z. -/
def WK (Z : Nat → Prop) (w : World) (p : Nat) (s : Cd.WSt) : Prop := ∃ v, WM w p v s ∧ ∀ k, Z k → k < w.heap.size ∧ k ≠ p ∧ v.ownBlock ≠ some k
theorem WM.cells {w : World} {p : Nat} {v : Value} {s : Cd.WSt} (h : WM w p v s) : w.cell? ⟨p, 0, none⟩ = some v ∧ w.cell? ⟨p, 1, none⟩ = some (.bool s.2) ∧ w.cell? ⟨p, 2, none⟩ = some (.bool (decide (4000000 < s.1.length))) ∧ ∀ i, w.frozen? ⟨p, i, none⟩ = false := by
  have hb := h.blk
  refine ⟨?_, ?_, ?_, fun i => ?_⟩ <;> simp [World.cell?, World.frozen?, hb]
theorem WM.lt {w : World} {p : Nat} {v : Value} {s : Cd.WSt} (h : WM w p v s) : p < w.heap.size := (Array.getElem?_eq_some_iff.1 h.blk).1
theorem ByRow.keepB {w w' : World} {B : Nat} {v : Value} {l : List UInt8} (h : ByRow w B v l) (hb : ∀ k, v.ownBlock = some k → w'.heap[k]? = w.heap[k]?) : ByRow w' B v l := by
  obtain ⟨g, cap, cur, fz, rfl, h2, h3, h4⟩ := h
  exact ⟨g, cap, cur, fz, rfl, h2, (hb g rfl).trans h3, h4⟩
theorem WM.sets {w : World} {p : Nat} {v : Value} {s : Cd.WSt} (h : WM w p v s) (i : Nat) (x : Value) : (w.setCell ⟨p, i, none⟩ x).heap[p]? = some (.cells (#[v, .bool s.2, .bool (decide (4000000 < s.1.length))].setIfInBounds i x) 69 (0, 0)) ∧ ∀ l, ByRow w 0 v l → ByRow (w.setCell ⟨p, i, none⟩ x) 0 v l := by
  refine ⟨?_, fun l hl => hl.keepB (fun k hk => Below.heap_setCell w _ _ k (fun e => h.ne (by rw [hk, e])))⟩
  rw [setCell_eq_setRow w p i _ _ _ _ h.blk]
  exact setRow_heap w p _ _ _ _ h.blk
theorem WM.misfit {w : World} {p : Nat} {v : Value} {s : Cd.WSt} (h : WM w p v s) : WM (w.setCell ⟨p, 1, none⟩ (.bool true)) p v (s.1, true) := by
  obtain ⟨h1, h2⟩ := h.sets 1 (.bool true)
  obtain ⟨l, hl⟩ := h.row
  exact ⟨h1, ⟨l, h2 l hl.1, hl.2⟩, h.ne⟩
theorem WM.room {w : World} {p : Nat} {v : Value} {s : Cd.WSt} (h : WM w p v s) (b : Bool) (s1 : List UInt8) (hb : b = decide (4000000 < s1.length)) (hl : s1.length ≤ 4000000 → s1 = s.1) : WM (w.setCell ⟨p, 2, none⟩ (.bool b)) p v (s1, s.2) := by
  obtain ⟨h1, h2⟩ := h.sets 2 (.bool b)
  obtain ⟨l, hr, hm, he⟩ := h.row
  subst hb
  exact ⟨h1, ⟨l, h2 l hr, hm, fun hx => by rw [he (by rw [← hl hx]; exact hx), ← hl hx]⟩, h.ne⟩
theorem WK.mono {Z Y : Nat → Prop} {w : World} {p : Nat} {s : Cd.WSt} (h : WK Z w p s) (hs : ∀ k, Y k → Z k) : WK Y w p s := by
  obtain ⟨v, h1, h2⟩ := h
  exact ⟨v, h1, fun k hk => h2 k (hs k hk)⟩
theorem WM.alloc {w : World} {p : Nat} {v : Value} {s : Cd.WSt} (h : WM w p v s) (o : Obj) : WM (w.alloc o) p v s := by
  obtain ⟨l, hr, hm⟩ := h.row
  exact ⟨(Below.heap_alloc w o p h.lt).trans h.blk, ⟨l, hr.keep ((Below.refl _ _).alloc (Nat.le_refl _) _), hm⟩, h.ne⟩
theorem WM.own_lt {w : World} {p : Nat} {v : Value} {s : Cd.WSt} (h : WM w p v s) {k : Nat} (hk : v.ownBlock = some k) : k < w.heap.size := by
  obtain ⟨l, hr, _⟩ := h.row
  obtain ⟨g, hg, _, h2⟩ := hr.lt
  rw [hg] at hk
  cases hk
  exact h2
/-- A new block is one of those that are kept. -/
theorem WK.alloc {Z : Nat → Prop} {w : World} {p : Nat} {s : Cd.WSt} (h : WK Z w p s) (o : Obj) : WK (fun k => Z k ∨ k = w.heap.size) (w.alloc o) p s := by
  obtain ⟨v, h1, h2⟩ := h
  refine ⟨v, h1.alloc o, fun k hk => ?_⟩
  rcases hk with hk | rfl
  · obtain ⟨a, b, c⟩ := h2 k hk
    exact ⟨by simp; omega, b, c⟩
  · refine ⟨by simp, fun e => ?_, fun e => ?_⟩
    · have := h1.lt; omega
    · have := h1.own_lt e; omega
theorem WK.drew {Z : Nat → Prop} {w : World} {p : Nat} {s : Cd.WSt} (h : WK Z w p s) : WK Z w.drew p s := by
  obtain ⟨v, h1, h2⟩ := h
  exact ⟨v, ⟨h1.blk, h1.row, h1.ne⟩, h2⟩
/-- What a call of the writer's leaves. -/
def WPost (Z : Nat → Prop) (w : World) (p : Nat) (s : Cd.WSt) (e : Ending) (w' : World) : Prop := e = .returned (.tuple #[]) ∧ WK Z w' p s ∧ Kz Z w w'
def WPre (Z : Nat → Prop) (p : Nat) (v : Value) : Prop := ∀ k, Z k → k ≠ p ∧ v.ownBlock ≠ some k

theorem isOp_any (op : Int) (w : World) :
    Calls Tryd.prog 55 #[.int .i64 op] w fun e w' => e = .returned (.bool (Cd.fits op 22)) ∧ w' = w := by
  go_enter Tryd.func55, Tryd.ntmps55
  go_wp2
  all_goals
    go_ret
    refine ⟨ret_bool ?_, rfl⟩
    unfold Cd.fits
    rw [Bool.eq_iff_iff]
    simp
    try omega

set_option maxHeartbeats 2000000 in
theorem widths_any (op : Int) (w : World) :
    Calls Tryd.prog 56 #[.int .i64 op] w fun e w' => e = .returned (.tuple #[.int .i64 (Cd.wa op : Nat), .int .i64 (Cd.wb op : Nat), .int .i64 (Cd.wn op : Nat)]) ∧ w' = w := by
  go_enter Tryd.func56, Tryd.ntmps56
  go_wp2
  all_goals first
    | (refine bodyPost_ret (v := .tuple #[.int .i64 0, .int .i64 0, .int .i64 8]) ?_ rfl ⟨?_, rfl⟩
       · simp [results, Tryd.results56, go_sem]
       · simp_all [Cd.wa, Cd.wb, Cd.wn, Cd.form])
    | (refine bodyPost_ret (v := .tuple #[.int .i64 2, .int .i64 2, .int .i64 0]) ?_ rfl ⟨?_, rfl⟩
       · simp [results, Tryd.results56, go_sem]
       · simp_all [Cd.wa, Cd.wb, Cd.wn, Cd.form])
    | (refine bodyPost_ret (v := .tuple #[.int .i64 2, .int .i64 0, .int .i64 0]) ?_ rfl ⟨?_, rfl⟩
       · simp [results, Tryd.results56, go_sem]
       · simp_all [Cd.wa, Cd.wb, Cd.wn, Cd.form])
    | (refine bodyPost_ret (v := .tuple #[.int .i64 0, .int .i64 0, .int .i64 0]) ?_ rfl ⟨?_, rfl⟩
       · simp [results, Tryd.results56, go_sem]
       · simp_all [Cd.wa, Cd.wb, Cd.wn, Cd.form])

def RoomPost (w : World) (p : Nat) (v : Value) (s : Cd.WSt) (n : Nat) (e : Ending) (w' : World) : Prop :=
  e = .returned (.bool (decide (s.1.length + n ≤ 4000000))) ∧ (s.1.length + n ≤ 4000000 → WM w' p v s) ∧ (¬ s.1.length + n ≤ 4000000 → ∀ l : List UInt8, l.length = n → WM w' p v (s.1 ++ l, s.2)) ∧ w.grownBy w' (some p)
theorem room_any (w : World) (p : Nat) (v : Value) (s : Cd.WSt) (n : Nat) (h : WM w p v s) (hn : n ≤ 65535) :
    Calls Tryd.prog 51 #[ptrV p, .int .i64 n] w (RoomPost w p v s n) := by
  obtain ⟨c0, c1, c2, hf⟩ := h.cells
  obtain ⟨l, hr, hm, he⟩ := h.row
  obtain ⟨g, cap, rfl, hc⟩ := hr.cell
  have H := hid h
  clear h hr hc
  have HE := hid he
  clear he
  unfold ptrV
  by_cases hx : 4000000 < s.1.length
  · have e2 : decide (4000000 < s.1.length) = true := by simpa using hx
    rw [e2] at c2
    go_enter Tryd.func51, Tryd.ntmps51
    go_wp2
    go_ret
    refine ⟨ret_bool (by simp; omega), fun h => by omega, fun _ l hl => ?_, grown_set (grown_refl _ _) _⟩
    exact H.out.room _ (s.1 ++ l) (by simp; omega) (fun h => by simp at h; omega)
  · have e2 : decide (4000000 < s.1.length) = false := by simpa using hx
    rw [e2] at c2
    obtain rfl : l = s.1 := HE.out (by omega)
    have hw : IntKind.i64.wrap ((s.1.length : Int) + n) = s.1.length + n := by rw [IntKind.wrap_i64]; omega
    by_cases hy : s.1.length + n ≤ 4000000
    · have hz : ¬ ((4000000 : Int) < s.1.length + n) := by omega
      go_enter Tryd.func51, Tryd.ntmps51
      go_wp2
      go_ret
      refine ⟨ret_bool (by simp; omega), fun h => ?_, fun hk => absurd hy hk, grown_set (grown_refl _ _) _⟩
      exact H.out.room _ s.1 (by simp; omega) (fun _ => rfl)
    · have hz : ((4000000 : Int) < s.1.length + n) := by omega
      go_enter Tryd.func51, Tryd.ntmps51
      go_wp2
      go_ret
      refine ⟨ret_bool (by simp; omega), fun h => absurd h hy, fun _ l hl => ?_, grown_set (grown_refl _ _) _⟩
      exact H.out.room _ (s.1 ++ l) (by simp; omega) (fun h => by simp at h; omega)
end Go.Proofs.YticmoofjjikefaaDoor
