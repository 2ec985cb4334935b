/-
  The document's stack in memory: New, last, Push, Top, Open.
-/
import Derived.Test.YtknjbiineihgfaaSm
import Derived.Test.YtknjbiineihgfaaSo
set_option linter.unusedVariables false
set_option linter.unusedSimpArgs false
namespace Go.Proofs.Ytknjbiineihgfaa
open Go.RowKit

/-- A segment of the document's: the slice of its frames. -/
structure Rn where
  u : Value
  s : Sg
def Rn.cells (r : Rn) : List Value := [.bool r.s.has, .int .i64 r.s.tag, r.u]
/-- Segments in a row of their own, their frames' rows apart. -/
structure RsM (w : World) (v : Value) (L : List Rn) : Prop where
  row : w.ownsRow 0 68 3 v L.length (L.flatMap Rn.cells)
  us : ∀ r ∈ L, w.ownsRow 0 3 1 r.u r.s.l.length (r.s.l.map (Value.int .i64))
  ds : L.Pairwise (fun r r' => ∀ k, r.u.ownBlock = some k → r'.u.ownBlock ≠ some k)
  dv : ∀ r ∈ L, ∀ k, r.u.ownBlock = some k → v.ownBlock ≠ some k
def rown (v : Value) (L : List Rn) : Nat → Prop := fun k => v.ownBlock = some k ∨ ∃ r ∈ L, r.u.ownBlock = some k
theorem RsM.keep {w w' : World} {v : Value} {L : List Rn} (h : RsM w v L) (hs : ∀ k, rown v L k → w'.heap[k]? = w.heap[k]?) : RsM w' v L :=
  ⟨ownsRow_keep h.row (fun k hk => hs k (.inl hk)), fun r hr => ownsRow_keep (h.us r hr) (fun k hk => hs k (.inr ⟨r, hr, hk⟩)), h.ds, h.dv⟩
theorem RsM.lt {w : World} {v : Value} {L : List Rn} (h : RsM w v L) {k : Nat} (hk : rown v L k) : k < w.heap.size := by
  rcases hk with e | ⟨r, hr, e⟩
  · exact ownsRow_lt h.row e
  · exact ownsRow_lt (h.us r hr) e
/-- A stack of the document's in the block c. -/
structure RtM (w : World) (c : Nat) (v : Value) (L : List Rn) : Prop where
  blk : w.heap[c]? = some (.cells #[v] 49 (0, 0))
  rs : RsM w v L
  nc : ¬ rown v L c
def rtown (c : Nat) (v : Value) (L : List Rn) : Nat → Prop := fun k => k = c ∨ rown v L k
theorem RtM.keep {w w' : World} {c : Nat} {v : Value} {L : List Rn} (h : RtM w c v L) (hs : ∀ k, rtown c v L k → w'.heap[k]? = w.heap[k]?) : RtM w' c v L :=
  ⟨(hs c (.inl rfl)).trans h.blk, h.rs.keep (fun k hk => hs k (.inr hk)), h.nc⟩
theorem RtM.lt {w : World} {c : Nat} {v : Value} {L : List Rn} (h : RtM w c v L) {k : Nat} (hk : rtown c v L k) : k < w.heap.size := by
  rcases hk with rfl | e
  · exact (Array.getElem?_eq_some_iff.1 h.blk).1
  · exact h.rs.lt e
theorem RtM.cell {w : World} {c : Nat} {v : Value} {L : List Rn} (h : RtM w c v L) : w.cell? ⟨c, 0, none⟩ = some v ∧ w.frozen? ⟨c, 0, none⟩ = false := by
  have := h.blk
  exact ⟨by simp [World.cell?, this], by simp [World.frozen?, this]⟩
theorem Try.infoR : (Try.prog.info? 68).map (fun i => (i.zero, i.size, i.bytes)) = some (some (.agg #[.bool false, .int .i64 0, .slice none 0 0]), 3, 40) := by kernel_rfl
theorem rflat_len (S : List Rn) : (S.flatMap Rn.cells).length = S.length * 3 := by
  induction S with
  | nil => rfl
  | cons s r ih => simp [List.flatMap_cons, ih, Rn.cells]; omega
theorem rflat_get (S : List Rn) : ∀ (i j : Nat) (x : Rn), S[i]? = some x → j < 3 → (S.flatMap Rn.cells)[i * 3 + j]? = x.cells[j]? := by
  induction S with
  | nil => intro i j x h; simp at h
  | cons s r ih =>
    intro i j x h hj
    have e4 : s.cells.length = 3 := rfl
    cases i with
    | zero =>
      obtain rfl : s = x := by simpa using h
      rw [List.flatMap_cons, List.getElem?_append_left (by omega)]
      simp
    | succ i =>
      rw [List.flatMap_cons, List.getElem?_append_right (by omega), e4, show (i + 1) * 3 + j - 3 = i * 3 + j by omega]
      exact ih i j x (by simpa using h) hj
theorem RsM.form {w : World} {v : Value} {L : List Rn} (h : RsM w v L) (hn : 0 < L.length) : ∃ g cap, v = .slice (some ⟨g, 0, none⟩) L.length cap ∧ L.length ≤ cap := by
  have hrow := h.row
  rcases hrow.2 with ⟨_, h0⟩ | ⟨g, cap, cur, rfl, _, hg, h1, _⟩
  · omega
  · exact ⟨g, cap, rfl, h1⟩

set_option maxHeartbeats 1000000 in
theorem rnew_any (w : World) :
    Calls Try.prog 5 #[] w fun e w' => e = .returned (.pointer (some ⟨w.heap.size + 1, 0, none⟩)) ∧ w' = (w.alloc (.cells #[.bool false, .int .i64 0, .slice none 0 0] 68)).alloc (.cells #[.slice (some ⟨w.heap.size, 0, none⟩) 1 1] 49) := by
  go_enter Try.func5, Try.ntmps5
  go_wp2
  go_ret
  exact ⟨rfl, rfl⟩

set_option maxHeartbeats 2000000 in
theorem last_any (w : World) (c g n cap : Nat) (h : w.cell? ⟨c, 0, none⟩ = some (.slice (some ⟨g, 0, none⟩) (n + 1) cap)) (hn : n < 1000000000) :
    Calls Try.prog 28 #[.pointer (some ⟨c, 0, none⟩)] w fun e w' => e = .returned (.pointer (some ⟨g, n * 3, none⟩)) ∧ w' = w.drew := by
  have hmx : Try.prog.follows .mixedOrders = true := by kernel_rfl
  have hw : IntKind.i64.wrap (((n : Int) + 1) - 1) = (n : Int) := by rw [IntWalk.i64_in _ (by omega)]; omega
  have hw2 : IntKind.i64.wrap (n : Int) = (n : Int) := IntWalk.i64_in _ (by omega)
  have hi0 : (0 : Int) ≤ (n : Int) := by omega
  have hi1 : (n : Int) < (n : Int) + 1 := by omega
  go_enter Try.func28, Try.ntmps28
  go_upto_region 1 with (fail)
  go_region_held3 (fun w' => w'.cell? ⟨c, 0, none⟩ = some (.slice (some ⟨g, 0, none⟩) (n + 1) cap)) (go_keep) (fail)
  go_wp2
  go_ret
  exact ⟨rfl, rfl⟩
end Go.Proofs.Ytknjbiineihgfaa
