/-
  The document's Check.
-/
import Derived.Test.YtkfjjkpphpakbaaEm
set_option linter.unusedVariables false
set_option linter.unusedSimpArgs false
namespace Go.Proofs.Ytkfjjkpphpakbaa
open Go.RowKit Go.Maps

namespace Cd
/-- A handler's operations at fault: too great a number, or one twice. -/
def hb (n : Nat) (l : List Int) : Bool := l.any (fun x => decide ((n : Int) ≤ x)) || !decide l.Nodup
theorem hb_bad (C : Code) (h : Han) : hanBad C h = hb C.ops.length h.ops := rfl
theorem hb_nil (n : Nat) : hb n [] = false := by simp [hb]
theorem hb_snoc (n : Nat) (l : List Int) (x : Int) : hb n (l ++ [x]) = (hb n l || decide ((n : Int) ≤ x) || l.any (fun y => y == x)) := by
  unfold hb
  rw [List.any_append]
  have e : (l ++ [x]).Nodup ↔ l.Nodup ∧ ¬ (l.any (fun y => y == x) = true) := by
    rw [List.nodup_append]
    simp
    intro _
    constructor
    · intro h e; exact h x e rfl
    · intro h y hy e; subst e; exact h hy
  rw [Bool.eq_iff_iff]
  simp only [Bool.or_eq_true, Bool.not_eq_true', decide_eq_false_iff_not, e]
  by_cases h1 : l.Nodup <;> by_cases h2 : l.any (fun y => y == x) = true <;> by_cases h3 : l.any (fun y => decide ((n : Int) ≤ y)) = true <;> by_cases h4 : (n : Int) ≤ x <;> simp [h1, h2, h3, h4]
theorem any_take {α : Type} {p : α → Bool} {l : List α} {i : Nat} {x : α} (h : l.take (i + 1) = l.take i ++ [x]) : (l.take (i + 1)).any p = ((l.take i).any p || p x) := by
  rw [h, List.any_append]
  simp
theorem opdL_le {C : Code} {f : Fun} {first : Bool} : ∀ (l : List Ins) (i0 : Nat) (e : Int) (i : Nat), opdL C f first l i0 = some (e, i) → i ≤ i0 + l.length
  | [], _, _, _, h => by simp [opdL] at h
  | x :: l, i0, e, i, h => by
    unfold opdL at h
    split at h
    · have := opdL_le l (i0 + 1) e i h
      simp
      omega
    · simp at h
      omega
theorem flowL_le {C : Code} : ∀ (l : List Ins) (i0 : Nat) (K K' : Kn) (i : Nat), flowL C l i0 K = (some i, K') → i ≤ i0 + l.length
  | [], _, _, _, _, h => by simp [flowL] at h
  | x :: l, i0, K, K', i, h => by
    unfold flowL at h
    simp only [List.length_cons]
    split at h
    · simp at h; omega
    · split at h
      · simp at h; omega
      · split at h
        · simp at h; omega
        · split at h
          · simp at h; omega
          · have := flowL_le l (i0 + 1) _ K' i h
            omega
theorem funF_le (C : Code) (f : Fun) (first : Bool) : (funF C f first).2 ≤ f.ins.length := by
  unfold funF
  split
  · rename_i z hz
    obtain ⟨e, i⟩ := z
    have := opdL_le f.ins 0 e i hz
    simpa using this
  · split
    · rename_i i K hz
      have := flowL_le f.ins 0 _ K i hz
      simpa using this
    · split <;> simp
def bad0 (C : Code) : Bool := decide (shp C.shape 1 0 ≠ C.shape.length) || decide (C.funs = []) || decide ((C.funs.getD 0 ⟨0, 0, []⟩).free ≠ 0)
theorem chk_bad (C : Code) : chk C = if (bad0 C || C.hans.any (hanBad C)) = true then (14, 0) else funsF C C.funs true 0 := by
  unfold chk bad0
  simp only [Bool.or_eq_true, decide_eq_true_eq, or_assoc]
theorem drop_cons {α : Type} {l : List α} {i : Nat} {x : α} (h : l[i]? = some x) : l.drop i = x :: l.drop (i + 1) := by
  obtain ⟨hl, e⟩ := List.getElem?_eq_some_iff.1 h
  rw [List.drop_eq_getElem_cons hl, e]
end Cd

set_option maxRecDepth 100000 in
theorem list_open3 (l : List Value) (h : l.length = 118) : ∃ F : Nat → Value, l = [F 0, F 1, F 2, F 3, F 4, F 5, F 6, F 7, F 8, F 9, F 10, F 11, F 12, F 13, F 14, F 15, F 16, F 17, F 18, F 19, F 20, F 21, F 22, F 23, F 24, F 25, F 26, F 27, F 28, F 29, F 30, F 31, F 32, F 33, F 34, F 35, F 36, F 37, F 38, F 39, F 40, F 41, F 42, F 43, F 44, F 45, F 46, F 47, F 48, F 49, F 50, F 51, F 52, F 53, F 54, F 55, F 56, F 57, F 58, F 59, F 60, F 61, F 62, F 63, F 64, F 65, F 66, F 67, F 68, F 69, F 70, F 71, F 72, F 73, F 74, F 75, F 76, F 77, F 78, F 79, F 80, F 81, F 82, F 83, F 84, F 85, F 86, F 87, F 88, F 89, F 90, F 91, F 92, F 93, F 94, F 95, F 96, F 97, F 98, F 99, F 100, F 101, F 102, F 103, F 104, F 105, F 106, F 107, F 108, F 109, F 110, F 111, F 112, F 113, F 114, F 115, F 116, F 117] ∧ ∀ i v, l[i]? = some v → F i = v := by
  refine ⟨fun i => l.getD i undef, ?_, fun i v hv => by simp [List.getD, hv]⟩
  have e : l = (List.range 118).map (fun i => l.getD i undef) := by
    apply List.ext_getElem?
    intro i
    by_cases hi : i < l.length
    · simp [List.getElem?_range (show i < 118 by omega), List.getD, hi]
    · rw [List.getElem?_eq_none (by omega), List.getElem?_eq_none (by simp; omega)]
  exact e
theorem act_open3 {a : Act} (h : a.tmps.size = 118) (hd : a.defers = []) : ∃ F : Nat → Value, a = ⟨#[F 0, F 1, F 2, F 3, F 4, F 5, F 6, F 7, F 8, F 9, F 10, F 11, F 12, F 13, F 14, F 15, F 16, F 17, F 18, F 19, F 20, F 21, F 22, F 23, F 24, F 25, F 26, F 27, F 28, F 29, F 30, F 31, F 32, F 33, F 34, F 35, F 36, F 37, F 38, F 39, F 40, F 41, F 42, F 43, F 44, F 45, F 46, F 47, F 48, F 49, F 50, F 51, F 52, F 53, F 54, F 55, F 56, F 57, F 58, F 59, F 60, F 61, F 62, F 63, F 64, F 65, F 66, F 67, F 68, F 69, F 70, F 71, F 72, F 73, F 74, F 75, F 76, F 77, F 78, F 79, F 80, F 81, F 82, F 83, F 84, F 85, F 86, F 87, F 88, F 89, F 90, F 91, F 92, F 93, F 94, F 95, F 96, F 97, F 98, F 99, F 100, F 101, F 102, F 103, F 104, F 105, F 106, F 107, F 108, F 109, F 110, F 111, F 112, F 113, F 114, F 115, F 116, F 117], []⟩ ∧ ∀ i v, a.tmps[i]? = some v → F i = v := by
  obtain ⟨⟨l⟩, d⟩ := a
  obtain rfl : d = [] := hd
  obtain ⟨F, h1, h2⟩ := list_open3 l (by simpa using h)
  exact ⟨F, by rw [← h1], fun i v hv => h2 i v (by simpa using hv)⟩
def ChkPost (C : Cd.Code) (w : World) (e : Ending) (w' : World) : Prop := e = .returned (.agg #[.int .i64 (Cd.chk C).1, .int .i64 ((Cd.chk C).2 : Nat)]) ∧ Below w.heap.size w w'
/-- The result lies in the block fB. -/
theorem chk_fin {C : Cd.Code} {w w' : World} {a' : Act} {fB : Nat} {e : Int} {i : Nat} (hd : a'.defers = []) (h2 : a'.tmps[2]? = some (.pointer (some ⟨fB, 0, none⟩))) (hc : w'.cell? ⟨fB, 0, none⟩ = some (.int .i64 e)) (hc1 : w'.cell? ⟨fB, 1, none⟩ = some (.int .i64 (i : Nat))) (hv : Cd.chk C = (e, i)) (hb : Below w.heap.size w w') : bodyPost Try.prog Try.f8 (ChkPost C w) .ret a' w' := by
  refine bodyPost_ret (v := .agg #[.int .i64 e, .int .i64 (i : Nat)]) ?_ hd ⟨?_, hb⟩
  · simp [results, Try.results8, go_sem, h2, hc, hc1]
  · rw [hv]

theorem fault_box {w : World} {b : Nat} {x y : Value} (h : w.heap[b]? = some (.cells #[x, y] 37 (0, 0))) : w.cell? ⟨b, 0, none⟩ = some x ∧ w.cell? ⟨b, 1, none⟩ = some y ∧ w.frozen? ⟨b, 0, none⟩ = false ∧ w.frozen? ⟨b, 1, none⟩ = false ∧ ∀ u v, ((w.setCell ⟨b, 0, none⟩ u).setCell ⟨b, 1, none⟩ v).heap[b]? = some (.cells #[u, v] 37 (0, 0)) := by
  refine ⟨?_, ?_, ?_, ?_, fun u v => ?_⟩
  · simp [World.cell?, h]
  · simp [World.cell?, h]
  · simp [World.frozen?, h]
  · simp [World.frozen?, h]
  · exact blk_set (blk_set h)
theorem below_set2 {w w' : World} {b : Nat} {u v : Value} (h : Below w.heap.size w w') (hb : w.heap.size ≤ b) : Below w.heap.size w ((w'.setCell ⟨b, 0, none⟩ u).setCell ⟨b, 1, none⟩ v) := (h.setCell hb _).setCell hb _
set_option maxRecDepth 100000 in
set_option maxHeartbeats 8000000 in
theorem rcheck_any (C : Cd.Code) (vb vc vd : Value) (w : World) (hM : CodeM w vb vc vd C) (hS : Cd.Small C) (hsh : C.shape.length ≤ 65535) (hl1 : C.hans.length ≤ 65535) (hl2 : C.funs.length ≤ 65535) (hl3 : C.ops.length ≤ 255) :
    Calls Try.prog 8 #[codeV2 C vb vc vd] w (ChkPost C w) := by
  unfold codeV2
  go_enter Try.func8, Try.ntmps8
  have HM := hid hM
  obtain ⟨⟨ao, co, rfl, hco, hx1⟩, ⟨ah, ch, rfl, hch, hx2⟩, ⟨af, cf, rfl, hcf, hx3⟩⟩ := hM
  have HX1 := hid hx1
  have HX2 := hid hx2
  have HX3 := hid hx3
  clear hx1 hx2 hx3
  have hsz := size_mk C.shape
  have HSh := hid (fun (W : World) => shape_any C.shape W (by omega))
  go_upto_region 1 with fail
  obtain ⟨W, hW⟩ : ∃ W, ((w.alloc (.cells #[.string ⟨C.shape.toArray⟩, .slice ao C.ops.length co, .slice ah C.hans.length ch, .slice af C.funs.length cf] 26)).alloc (.cells #[.int .i64 0, .int .i64 0] 37)) = W := ⟨_, rfl⟩
  have hbW : Below w.heap.size w W := by rw [← hW]; exact ((Below.refl _ _).alloc (Nat.le_refl _) _).alloc (by simp) _
  have c0 : W.cell? ⟨w.heap.size, 0, none⟩ = some (.string ⟨C.shape.toArray⟩) := by rw [← hW]; simp
  have c1 : W.cell? ⟨w.heap.size, 1, none⟩ = some (.slice ao C.ops.length co) := by rw [← hW]; simp
  have c2 : W.cell? ⟨w.heap.size, 2, none⟩ = some (.slice ah C.hans.length ch) := by rw [← hW]; simp
  have c3 : W.cell? ⟨w.heap.size, 3, none⟩ = some (.slice af C.funs.length cf) := by rw [← hW]; simp
  have cF : W.heap[w.heap.size + 1]? = some (.cells #[.int .i64 0, .int .i64 0] 37 (0, 0)) := by
    rw [← hW]
    have := World.alloc_heap_new (w.alloc (.cells #[.string ⟨C.shape.toArray⟩, .slice ao C.ops.length co, .slice ah C.hans.length ch, .slice af C.funs.length cf] 26)) (.cells #[.int .i64 0, .int .i64 0] 37)
    rw [World.size_alloc] at this
    exact this
  rw [hW]
  clear hW
  refine wp_mono (Q := Exit.then (fun a' w' => (a'.tmps.size = 118 ∧ a'.defers = []) ∧ a'.tmps[1]? = some (.pointer (some ⟨w.heap.size, 0, none⟩)) ∧ a'.tmps[2]? = some (.pointer (some ⟨w.heap.size + 1, 0, none⟩)) ∧ a'.tmps[3]? = some (.bool (Cd.bad0 C)) ∧ ∃ n, w' = W.drewN n) (fun _ _ _ => False)) ?_ ?_
  · by_cases h0 : Cd.shp C.shape 1 0 = C.shape.length
    · have HS0 := hid h0
      cases hfs : C.funs with
      | nil =>
        have hl0 : C.funs.length = 0 := by rw [hfs]; rfl
        have hb : Cd.bad0 C = true := by simp [Cd.bad0, hfs]
        rw [hb]
        rw [hl0] at c3
        rw [h0] at HSh
        go_quiet (first
        | (go_at_call 17; exact Calls.quiet_of_same (HSh.out _)))
        exact ⟨⟨rfl, rfl⟩, rfl, rfl, by first | rfl | (simp [*]), nq, rfl⟩
      | cons f fs =>
        have hl0 : C.funs.length = fs.length + 1 := by rw [hfs]; rfl
        obtain ⟨g, k, rfl, hcell⟩ := HX3.out (by rw [hfs]; simp)
        have c4 := kc hbW (hcell 0 f (by rw [hfs]; rfl)).1
        have b1 : (((C.funs.length : Nat) : Int) == 0) = false := by rw [hl0]; simp; omega
        have b2 : (0 : Int) < C.funs.length := by omega
        have b3 : 0 < C.funs.length := by omega
        simp only [Nat.zero_mul, Nat.add_zero] at c4
        replace hl0 := hid hl0
        replace hfs := hid hfs
        rw [h0] at HSh
        by_cases hfr : f.free = 0
        · have hb : Cd.bad0 C = false := by have hfs := hfs.out; simp [Cd.bad0, hfs, h0, hfr]
          rw [hb]
          rw [hfr] at c4
          go_quiet (first
        | (go_at_call 17; exact Calls.quiet_of_same (HSh.out _)))
          exact ⟨⟨rfl, rfl⟩, rfl, rfl, by first | rfl | (simp [*]), nq, rfl⟩
        · have hb : Cd.bad0 C = true := by have hfs := hfs.out; simp [Cd.bad0, hfs, h0, hfr]
          rw [hb]
          have hfr' : (f.free != 0) = true := by simpa using hfr
          go_quiet (first
        | (go_at_call 17; exact Calls.quiet_of_same (HSh.out _)))
          exact ⟨⟨rfl, rfl⟩, rfl, rfl, by first | rfl | (simp [*]), nq, rfl⟩
    · have hb : Cd.bad0 C = true := by simp [Cd.bad0, h0]
      rw [hb]
      have h0' : (Cd.shp C.shape 1 0 != (C.shape.length : Int)) = true := by simpa using h0
      go_quiet (first
        | (go_at_call 17; exact Calls.quiet_of_same (HSh.out _)))
      exact ⟨⟨rfl, rfl⟩, rfl, rfl, by first | rfl | (simp [*]), nq, rfl⟩
  · intro e a' w' h
    cases e with
    | normal =>
      obtain ⟨⟨hsz1, hdf1⟩, t1, t2, t3, n, rfl⟩ := h
      obtain ⟨G, rfl, hG⟩ := act_open3 hsz1 hdf1
      have g1 := hG 1 _ t1
      have g2 := hG 2 _ t2
      have g3 := hG 3 _ t3
      rw [g1, g2, g3]
      clear hG g1 g2 g3 t1 t2 t3 hsz1 hdf1
      have HB0 : Hid (Below W.heap.size W (W.drewN n)) := ⟨rfl, rfl, rfl, Nat.le_refl _, fun _ _ => rfl⟩
      go_wp2
      generalize W.drewN n = W1 at HB0
      go_loopw [3, 4] (fun bv t wr => ∃ i : Nat, t = .int .i64 i ∧ bv = .bool (Cd.bad0 C || (C.hans.take i).any (Cd.hanBad C)) ∧ i ≤ C.hans.length ∧ Hid (Below W.heap.size W wr)) (fun _ t _ => C.hans.length - (intOf t).toNat)
      case atStart => exact ⟨0, rfl, by simp, Nat.zero_le _, HB0⟩
      case round =>
        obtain ⟨i, rfl, rfl, hi, HB⟩ := hrel
        have d0 := kc HB.out c0
        have d1 := kc HB.out c1
        have d2 := kc HB.out c2
        have d3 := kc HB.out c3
        by_cases hlt : i < C.hans.length
        · obtain ⟨h, hh, htk, hmem, hne⟩ := at_some hlt
          obtain ⟨g, k, rfl, hcell⟩ := HX2.out hne
          obtain ⟨q0, u, q1, ai, ci, rfl, hci, hci2⟩ := hcell i h hh
          have e0 := kc (below_trans hbW HB.out) q0
          have e1 := kc (below_trans hbW HB.out) q1
          have HI := hid hci2
          have hol := hS.ops h hmem
          have hgl : (i : Int) < C.hans.length := by omega
          have HAn : Hid ((C.hans.take (i + 1)).any (Cd.hanBad C) = ((C.hans.take i).any (Cd.hanBad C) || Cd.hb C.ops.length h.ops)) := by rw [Hid, Cd.any_take htk, Cd.hb_bad]
          clear hcell q0 q1 hci2 htk hne
          generalize hB : (Cd.bad0 C || (C.hans.take i).any (Cd.hanBad C)) = B
          have HBB := hid hB
          clear hB
          go_wp2
          go_loopw [3, 6] (fun bv t wr => ∃ j : Nat, t = .int .i64 j ∧ bv = .bool (B || Cd.hb C.ops.length (h.ops.take j)) ∧ j ≤ h.ops.length ∧ Hid (Below W.heap.size W wr)) (fun _ t _ => h.ops.length - (intOf t).toNat)
          case atStart => exact ⟨0, rfl, by simp [Cd.hb_nil], Nat.zero_le _, HB⟩
          case round =>
            obtain ⟨j, rfl, rfl, hj, HB2⟩ := hrel
            clear d0 d1 d2 d3 e0 e1
            have d1 := kc HB2.out c1
            by_cases hlt2 : j < h.ops.length
            · obtain ⟨x, hx, htk2, hmem2, hne2⟩ := at_some hlt2
              obtain ⟨gi, ki, rfl, hcell2⟩ := HI.out hne2
              have y0 := kc (below_trans hbW HB2.out) (hcell2 j x hx)
              have hgl2 : (j : Int) < h.ops.length := by omega
              have HSn : Hid (Cd.hb C.ops.length (h.ops.take (j + 1)) = (Cd.hb C.ops.length (h.ops.take j) || decide ((C.ops.length : Int) ≤ x) || (h.ops.take j).any (fun y => y == x))) := by rw [Hid, htk2, Cd.hb_snoc]
              have HC2 := hid hcell2
              clear hcell2 htk2 hne2
              generalize hB3 : (B || Cd.hb C.ops.length (h.ops.take j)) = B3
              have HB3 := hid hB3
              clear hB3
              go_wp2
              obtain ⟨B4, HB4e⟩ : ∃ B4, Hid ((B3 || decide ((C.ops.length : Int) ≤ x)) = B4) := ⟨_, rfl⟩
              cases B3
              · by_cases hxl : (C.ops.length : Int) ≤ x
                · have HL4 : Hid (B4 = true) := by rw [Hid, ← HB4e.out]; simp [hxl]
                  go_quiet (fail)
                  go_wp2
                  have HBq : Hid (Below W.heap.size W (wr.drewN nq)) := ⟨HB2.out.os, HB2.out.tape, HB2.out.output, HB2.out.size, HB2.out.block⟩
                  generalize wr.drewN nq = wq at HBq
                  clear d1 y0
                  go_loopw [3, 7] (fun bv t wr => ∃ k2 : Nat, t = .int .i64 k2 ∧ bv = .bool (B4 || (h.ops.take k2).any (fun y => y == x)) ∧ k2 ≤ j ∧ Hid (Below W.heap.size W wr)) (fun _ t _ => j - (intOf t).toNat)
                  case atStart => exact ⟨0, rfl, by rw [HL4.out]; simp, Nat.zero_le _, HBq⟩
                  case round =>
                    obtain ⟨k2, rfl, rfl, hk2, HB4⟩ := hrel
                    by_cases hlt3 : k2 < j
                    · obtain ⟨y, hy, htk3, _, _⟩ := at_some (show k2 < h.ops.length by omega)
                      have z0 := kc (below_trans hbW HB4.out) (HC2.out k2 y hy)
                      have z1 := kc (below_trans hbW HB4.out) (HC2.out j x hx)
                      have hgl3 : (k2 : Int) < (j : Int) := by omega
                      have hgl4 : (k2 : Int) < h.ops.length := by omega
                      have HA3 : Hid ((h.ops.take (k2 + 1)).any (fun y => y == x) = ((h.ops.take k2).any (fun y => y == x) || (y == x))) := by rw [Hid, Cd.any_take htk3]
                      clear htk3
                      generalize hB5 : (B4 || (h.ops.take k2).any (fun y => y == x)) = B5
                      have HB5 := hid hB5
                      clear hB5
                      cases B5
                      · by_cases hyx : y = x
                        · have hq : (y == x) = true := by simpa using hyx
                          rw [hyx] at z0
                          go_wp2
                          go_quiet (fail)
                          go_wp2
                          go_roundw
                          case rel => exact ⟨k2 + 1, by simp, by rw [HA3.out, ← Bool.or_assoc, HB5.out, hyx]; simp, by omega, ⟨HB4.out.os, HB4.out.tape, HB4.out.output, HB4.out.size, HB4.out.block⟩⟩
                          case measure => simp [intOf]; omega
                        · have hq : (y == x) = false := by simpa using hyx
                          go_wp2
                          go_quiet (fail)
                          go_wp2
                          go_roundw
                          case rel => exact ⟨k2 + 1, by simp, by rw [HA3.out, ← Bool.or_assoc, HB5.out, hq]; simp, by omega, ⟨HB4.out.os, HB4.out.tape, HB4.out.output, HB4.out.size, HB4.out.block⟩⟩
                          case measure => simp [intOf]; omega
                      · go_wp2
                        go_quiet (fail)
                        go_wp2
                        go_roundw
                        case rel => exact ⟨k2 + 1, by simp, by rw [HA3.out, ← Bool.or_assoc, HB5.out]; simp, by omega, ⟨HB4.out.os, HB4.out.tape, HB4.out.output, HB4.out.size, HB4.out.block⟩⟩
                        case measure => simp [intOf]; omega
                    · have ek : k2 = j := by omega
                      subst ek
                      have hgl3 : ¬ (k2 : Int) < (k2 : Int) := by omega
                      go_wp2
                      go_roundw
                      case rel => exact ⟨k2 + 1, by simp, by rw [HSn.out, ← HB4e.out, ← HB3.out]; simp [Bool.or_assoc], by omega, HB4⟩
                      case measure => simp [intOf]; omega
                · have HL4 : Hid (B4 = false) := by rw [Hid, ← HB4e.out]; simp [hxl]
                  have hxl2 : x < (C.ops.length : Int) := by omega
                  go_quiet (fail)
                  go_wp2
                  have HBq : Hid (Below W.heap.size W (wr.drewN nq)) := ⟨HB2.out.os, HB2.out.tape, HB2.out.output, HB2.out.size, HB2.out.block⟩
                  generalize wr.drewN nq = wq at HBq
                  clear d1 y0
                  go_loopw [3, 7] (fun bv t wr => ∃ k2 : Nat, t = .int .i64 k2 ∧ bv = .bool (B4 || (h.ops.take k2).any (fun y => y == x)) ∧ k2 ≤ j ∧ Hid (Below W.heap.size W wr)) (fun _ t _ => j - (intOf t).toNat)
                  case atStart => exact ⟨0, rfl, by rw [HL4.out]; simp, Nat.zero_le _, HBq⟩
                  case round =>
                    obtain ⟨k2, rfl, rfl, hk2, HB4⟩ := hrel
                    by_cases hlt3 : k2 < j
                    · obtain ⟨y, hy, htk3, _, _⟩ := at_some (show k2 < h.ops.length by omega)
                      have z0 := kc (below_trans hbW HB4.out) (HC2.out k2 y hy)
                      have z1 := kc (below_trans hbW HB4.out) (HC2.out j x hx)
                      have hgl3 : (k2 : Int) < (j : Int) := by omega
                      have hgl4 : (k2 : Int) < h.ops.length := by omega
                      have HA3 : Hid ((h.ops.take (k2 + 1)).any (fun y => y == x) = ((h.ops.take k2).any (fun y => y == x) || (y == x))) := by rw [Hid, Cd.any_take htk3]
                      clear htk3
                      generalize hB5 : (B4 || (h.ops.take k2).any (fun y => y == x)) = B5
                      have HB5 := hid hB5
                      clear hB5
                      cases B5
                      · by_cases hyx : y = x
                        · have hq : (y == x) = true := by simpa using hyx
                          rw [hyx] at z0
                          go_wp2
                          go_quiet (fail)
                          go_wp2
                          go_roundw
                          case rel => exact ⟨k2 + 1, by simp, by rw [HA3.out, ← Bool.or_assoc, HB5.out, hyx]; simp, by omega, ⟨HB4.out.os, HB4.out.tape, HB4.out.output, HB4.out.size, HB4.out.block⟩⟩
                          case measure => simp [intOf]; omega
                        · have hq : (y == x) = false := by simpa using hyx
                          go_wp2
                          go_quiet (fail)
                          go_wp2
                          go_roundw
                          case rel => exact ⟨k2 + 1, by simp, by rw [HA3.out, ← Bool.or_assoc, HB5.out, hq]; simp, by omega, ⟨HB4.out.os, HB4.out.tape, HB4.out.output, HB4.out.size, HB4.out.block⟩⟩
                          case measure => simp [intOf]; omega
                      · go_wp2
                        go_quiet (fail)
                        go_wp2
                        go_roundw
                        case rel => exact ⟨k2 + 1, by simp, by rw [HA3.out, ← Bool.or_assoc, HB5.out]; simp, by omega, ⟨HB4.out.os, HB4.out.tape, HB4.out.output, HB4.out.size, HB4.out.block⟩⟩
                        case measure => simp [intOf]; omega
                    · have ek : k2 = j := by omega
                      subst ek
                      have hgl3 : ¬ (k2 : Int) < (k2 : Int) := by omega
                      go_wp2
                      go_roundw
                      case rel => exact ⟨k2 + 1, by simp, by rw [HSn.out, ← HB4e.out, ← HB3.out]; simp [Bool.or_assoc], by omega, HB4⟩
                      case measure => simp [intOf]; omega
              · have HL4 : Hid (B4 = true) := by rw [Hid, ← HB4e.out]; simp
                go_quiet (fail)
                go_wp2
                have HBq : Hid (Below W.heap.size W (wr.drewN nq)) := ⟨HB2.out.os, HB2.out.tape, HB2.out.output, HB2.out.size, HB2.out.block⟩
                generalize wr.drewN nq = wq at HBq
                clear d1 y0
                go_loopw [3, 7] (fun bv t wr => ∃ k2 : Nat, t = .int .i64 k2 ∧ bv = .bool (B4 || (h.ops.take k2).any (fun y => y == x)) ∧ k2 ≤ j ∧ Hid (Below W.heap.size W wr)) (fun _ t _ => j - (intOf t).toNat)
                case atStart => exact ⟨0, rfl, by rw [HL4.out]; simp, Nat.zero_le _, HBq⟩
                case round =>
                  obtain ⟨k2, rfl, rfl, hk2, HB4⟩ := hrel
                  by_cases hlt3 : k2 < j
                  · obtain ⟨y, hy, htk3, _, _⟩ := at_some (show k2 < h.ops.length by omega)
                    have z0 := kc (below_trans hbW HB4.out) (HC2.out k2 y hy)
                    have z1 := kc (below_trans hbW HB4.out) (HC2.out j x hx)
                    have hgl3 : (k2 : Int) < (j : Int) := by omega
                    have hgl4 : (k2 : Int) < h.ops.length := by omega
                    have HA3 : Hid ((h.ops.take (k2 + 1)).any (fun y => y == x) = ((h.ops.take k2).any (fun y => y == x) || (y == x))) := by rw [Hid, Cd.any_take htk3]
                    clear htk3
                    generalize hB5 : (B4 || (h.ops.take k2).any (fun y => y == x)) = B5
                    have HB5 := hid hB5
                    clear hB5
                    cases B5
                    · by_cases hyx : y = x
                      · have hq : (y == x) = true := by simpa using hyx
                        rw [hyx] at z0
                        go_wp2
                        go_quiet (fail)
                        go_wp2
                        go_roundw
                        case rel => exact ⟨k2 + 1, by simp, by rw [HA3.out, ← Bool.or_assoc, HB5.out, hyx]; simp, by omega, ⟨HB4.out.os, HB4.out.tape, HB4.out.output, HB4.out.size, HB4.out.block⟩⟩
                        case measure => simp [intOf]; omega
                      · have hq : (y == x) = false := by simpa using hyx
                        go_wp2
                        go_quiet (fail)
                        go_wp2
                        go_roundw
                        case rel => exact ⟨k2 + 1, by simp, by rw [HA3.out, ← Bool.or_assoc, HB5.out, hq]; simp, by omega, ⟨HB4.out.os, HB4.out.tape, HB4.out.output, HB4.out.size, HB4.out.block⟩⟩
                        case measure => simp [intOf]; omega
                    · go_wp2
                      go_quiet (fail)
                      go_wp2
                      go_roundw
                      case rel => exact ⟨k2 + 1, by simp, by rw [HA3.out, ← Bool.or_assoc, HB5.out]; simp, by omega, ⟨HB4.out.os, HB4.out.tape, HB4.out.output, HB4.out.size, HB4.out.block⟩⟩
                      case measure => simp [intOf]; omega
                  · have ek : k2 = j := by omega
                    subst ek
                    have hgl3 : ¬ (k2 : Int) < (k2 : Int) := by omega
                    go_wp2
                    go_roundw
                    case rel => exact ⟨k2 + 1, by simp, by rw [HSn.out, ← HB4e.out, ← HB3.out]; simp [Bool.or_assoc], by omega, HB4⟩
                    case measure => simp [intOf]; omega
            · have ej : j = h.ops.length := by omega
              subst ej
              have hgl2 : ¬ (h.ops.length : Int) < h.ops.length := by omega
              go_wp2
              go_roundw
              case rel => exact ⟨i + 1, by simp, by rw [HAn.out, ← HBB.out, List.take_length]; simp [Bool.or_assoc], by omega, HB2⟩
              case measure => simp [intOf]; omega
        · have ei : i = C.hans.length := by omega
          subst ei
          have hgl : ¬ (C.hans.length : Int) < C.hans.length := by omega
          rw [List.take_length]
          have HCk := hid (Cd.chk_bad C)
          generalize (Cd.bad0 C || C.hans.any (Cd.hanBad C)) = BB at HCk
          cases BB
          · simp only [Bool.false_eq_true, if_false] at HCk
            go_wp2
            have HF0 : Hid (Cd.chk C = Cd.funsF C (C.funs.drop 0) (decide (0 = 0)) 0) := by rw [Hid, List.drop_zero]; exact HCk.out
            clear d0 d1 d2 d3 HCk
            go_loopw [8, 9] (fun av t wr => ∃ m at_ : Nat, t = .int .i64 m ∧ av = .int .i64 at_ ∧ m ≤ C.funs.length ∧ at_ ≤ m * 65535 ∧ Hid (Below W.heap.size W wr) ∧ Hid (Cd.chk C = Cd.funsF C (C.funs.drop m) (decide (m = 0)) at_)) (fun _ t _ => C.funs.length - (intOf t).toNat)
            case atStart => exact ⟨0, 0, rfl, rfl, Nat.zero_le _, Nat.zero_le _, HB, HF0⟩
            case round =>
              obtain ⟨m, at_, rfl, rfl, hm, hat, HB, HF⟩ := hrel
              have d0 := kc HB.out c0
              have d1 := kc HB.out c1
              have d2 := kc HB.out c2
              have d3 := kc HB.out c3
              by_cases hlt : m < C.funs.length
              · obtain ⟨f, hf, htk, hmem, hne⟩ := at_some hlt
                obtain ⟨g, k, rfl, hcell⟩ := HX3.out hne
                obtain ⟨q0, q1, u, q2, hI⟩ := hcell m f hf
                have e0 := kc (below_trans hbW HB.out) q0
                have e1 := kc (below_trans hbW HB.out) q1
                have e2 := kc (below_trans hbW HB.out) q2
                have hil := hS.ins f hmem
                have HDr : Hid (C.funs.drop m = f :: C.funs.drop (m + 1)) := Cd.drop_cons hf
                have hfun := fun (W9 : World) (h9 : Below W.heap.size W W9) => fun_any C f _ _ _ u (decide (m = 0)) W9 (HM.out.keep (below_trans hbW h9)) (hI.keep (below_trans hbW h9)) hS hmem
                unfold codeV2 funV FunPost at hfun
                obtain ⟨ai, ci, rfl, hci, _⟩ := hI
                have hgl : (m : Int) < C.funs.length := by omega
                have hz : ((m : Int) == 0) = decide (m = 0) := by rw [Bool.eq_iff_iff]; simp
                have HBd : Hid (Below W.heap.size W wr.drew) := ⟨HB.out.os, HB.out.tape, HB.out.output, HB.out.size, HB.out.block⟩
                clear hcell htk hne
                generalize hZ : decide (m = 0) = zz at hfun hz
                have HZ := hid hZ
                clear hZ
                generalize hfv : Cd.funF C f zz = fv at hfun
                have HFV := hid hfv
                clear hfv
                obtain ⟨fe, fi⟩ := fv
                dsimp only at hfun
                have hfi : fi ≤ 65535 := by
                  have := Cd.funF_le C f zz
                  rw [HFV.out] at this
                  dsimp only at this
                  omega
                have HFn : Hid (Cd.chk C = if fe = 0 then Cd.funsF C (C.funs.drop (m + 1)) false (at_ + f.ins.length) else (fe, at_ + fi)) := by
                  rw [Hid, HF.out, HDr.out, Cd.funsF, HZ.out, HFV.out]
                by_cases hfe : fe = 0
                · subst hfe
                  simp only [if_true] at HFn
                  go_upto_region 20 with fail
                  refine wp_region_held_drew (S := (fun w' => w'.cell? ⟨w.heap.size, 0, none⟩ = some (.string ⟨C.shape.toArray⟩) ∧ w'.cell? ⟨w.heap.size, 1, none⟩ = some (.slice ao C.ops.length co) ∧ w'.cell? ⟨w.heap.size, 2, none⟩ = some (.slice ah C.hans.length ch) ∧ w'.cell? ⟨w.heap.size, 3, none⟩ = some (.slice (some ⟨g, k, none⟩) C.funs.length cf) ∧ w'.cell? ⟨g, k + m * 3, none⟩ = some (.int .i64 f.free) ∧ w'.cell? ⟨g, k + m * 3 + 1, none⟩ = some (.int .i64 f.slots) ∧ w'.cell? ⟨g, k + m * 3 + 2, none⟩ = some (.slice ai f.ins.length ci))) (by kernel_rfl) (by first | trivial | ((try dsimp only); go_keep)) (fun hHeld => ?_)
                  refine wpAnyH_take (i := 0) (v := ?vvc1) rfl (by kernel_rfl) (by kernel_rfl) (by kernel_rfl) (fun _ _ _ h => h) (Or.inl ⟨by rfl, ?yyc1⟩) (by assumption) ?rrc1
                  case yyc1 => (intro w' hSw; (try dsimp only at hSw); go_simp; (try with_reducible rfl))
                  try simp only [Act.put, List.setIfInBounds_toArray, List.set_cons_zero, List.set_cons_succ]
                  refine wpAnyH_take (i := 1) (v := ?vvc2) rfl (by kernel_rfl) (by kernel_rfl) (by kernel_rfl) (fun _ _ _ h => h) (Or.inl ⟨by rfl, ?yyc2⟩) (by assumption) ?rrc2
                  case yyc2 => (intro w' hSw; (try dsimp only at hSw); go_simp; (try with_reducible rfl))
                  try simp only [Act.put, List.setIfInBounds_toArray, List.set_cons_zero, List.set_cons_succ]
                  refine wpAnyH_take (i := 2) (v := ?vvc3) rfl (by kernel_rfl) (by kernel_rfl) (by kernel_rfl) (fun _ _ _ h => h) (Or.inl ⟨by rfl, ?yyc3⟩) (by assumption) ?rrc3
                  case yyc3 => (intro w' hSw; (try dsimp only at hSw); go_simp; (try with_reducible rfl))
                  try simp only [Act.put, List.setIfInBounds_toArray, List.set_cons_zero, List.set_cons_succ]
                  refine wpAnyH_take (i := 3) (v := ?vvc4) rfl (by kernel_rfl) (by kernel_rfl) (by kernel_rfl) (fun _ _ _ h => h) (Or.inl ⟨by rfl, ?yyc4⟩) (by assumption) ?rrc4
                  case yyc4 => (intro w' hSw; (try dsimp only at hSw); go_simp; (try with_reducible rfl))
                  try simp only [Act.put, List.setIfInBounds_toArray, List.set_cons_zero, List.set_cons_succ]
                  refine wpAnyH_take (i := 4) (v := ?vvc5) rfl (by kernel_rfl) (by kernel_rfl) (by kernel_rfl) (fun _ _ _ h => h) (Or.inl ⟨by rfl, ?yyc5⟩) (by assumption) ?rrc5
                  case yyc5 => (intro w' hSw; (try dsimp only at hSw); go_simp; (try with_reducible rfl))
                  try simp only [Act.put, List.setIfInBounds_toArray, List.set_cons_zero, List.set_cons_succ]
                  refine wpAnyH_take (i := 5) (v := ?vvc6) rfl (by kernel_rfl) (by kernel_rfl) (by kernel_rfl) (fun _ _ _ h => h) (Or.inl ⟨by rfl, ?yyc6⟩) (by assumption) ?rrc6
                  case yyc6 => (intro w' hSw; (try dsimp only at hSw); go_simp; (try with_reducible rfl))
                  try simp only [Act.put, List.setIfInBounds_toArray, List.set_cons_zero, List.set_cons_succ]
                  refine wpAnyH_take (i := 6) (v := ?vvc7) rfl (by kernel_rfl) (by kernel_rfl) (by kernel_rfl) (fun _ _ _ h => h) (Or.inl ⟨by rfl, ?yyc7⟩) (by assumption) ?rrc7
                  case yyc7 => (intro w' hSw; (try dsimp only at hSw); go_simp; (try with_reducible rfl))
                  try simp only [Act.put, List.setIfInBounds_toArray, List.set_cons_zero, List.set_cons_succ]
                  refine wpAnyH_take (i := 7) (v := ?vvc8) rfl (by kernel_rfl) (by kernel_rfl) (by kernel_rfl) (fun _ _ _ h => h) (Or.inl ⟨by rfl, ?yyc8⟩) (by assumption) ?rrc8
                  case yyc8 => (intro w' hSw; (try dsimp only at hSw); go_simp; (try with_reducible rfl))
                  try simp only [Act.put, List.setIfInBounds_toArray, List.set_cons_zero, List.set_cons_succ]
                  refine wpAnyH_ready (rs := [8]) (by kernel_rfl) (by simp) (AllReadyH.cons rfl (fun K hK => ?_) AllReadyH.nil)
                  go_simp
                  refine (hfun _ HBd.out).mono ?_
                  rintro en w5 ⟨rfl, hb5⟩
                  have HB5 := hid (below_trans HBd.out hb5)
                  clear hb5 d0 d1 d2 d3 e0 e1 e2
                  have d0 := kc HB5.out c0
                  have d1 := kc HB5.out c1
                  have d2 := kc HB5.out c2
                  have d3 := kc HB5.out c3
                  have e0 := kc (below_trans hbW HB5.out) q0
                  have e1 := kc (below_trans hbW HB5.out) q1
                  have e2 := kc (below_trans hbW HB5.out) q2
                  dsimp only
                  clear hHeld
                  refine hK.out _ _ ?hs (fun hHeld => ?_)
                  case hs => (first | trivial | ((try dsimp only); go_keep) | ((try dsimp only); simp [*, World.cell?_alloc_some, World.cell?_setCell_far, World.cell?_setCell_other]))
                  clear hK K
                  try simp only [Act.put, List.setIfInBounds_toArray, List.set_cons_zero, List.set_cons_succ]
                  refine wpAnyH_take (i := 9) (v := ?vvc9) rfl (by kernel_rfl) (by kernel_rfl) (by kernel_rfl) (fun _ _ _ h => h) (Or.inl ⟨by rfl, ?yyc9⟩) (by assumption) ?rrc9
                  case yyc9 => (intro w' hSw; (try dsimp only at hSw); go_simp; (try with_reducible rfl))
                  try simp only [Act.put, List.setIfInBounds_toArray, List.set_cons_zero, List.set_cons_succ]
                  refine wpAnyH_take (i := 10) (v := ?vvc10) rfl (by kernel_rfl) (by kernel_rfl) (by kernel_rfl) (fun _ _ _ h => h) (Or.inl ⟨by rfl, ?yyc10⟩) (by assumption) ?rrc10
                  case yyc10 => (intro w' hSw; (try dsimp only at hSw); go_simp; (try with_reducible rfl))
                  try simp only [Act.put, List.setIfInBounds_toArray, List.set_cons_zero, List.set_cons_succ]
                  refine wpAnyH_take (i := 11) (v := ?vvc11) rfl (by kernel_rfl) (by kernel_rfl) (by kernel_rfl) (fun _ _ _ h => h) (Or.inl ⟨by rfl, ?yyc11⟩) (by assumption) ?rrc11
                  case yyc11 => (intro w' hSw; (try dsimp only at hSw); go_simp; (try with_reducible rfl))
                  try simp only [Act.put, List.setIfInBounds_toArray, List.set_cons_zero, List.set_cons_succ]
                  refine wpAnyH_take (i := 12) (v := ?vvc12) rfl (by kernel_rfl) (by kernel_rfl) (by kernel_rfl) (fun _ _ _ h => h) (Or.inl ⟨by rfl, ?yyc12⟩) (by assumption) ?rrc12
                  case yyc12 => (intro w' hSw; (try dsimp only at hSw); go_simp; (try with_reducible rfl))
                  try simp only [Act.put, List.setIfInBounds_toArray, List.set_cons_zero, List.set_cons_succ]
                  refine wpAnyH_take (i := 13) (v := ?vvc13) rfl (by kernel_rfl) (by kernel_rfl) (by kernel_rfl) (fun _ _ _ h => h) (Or.inl ⟨by rfl, ?yyc13⟩) (by assumption) ?rrc13
                  case yyc13 => (intro w' hSw; (try dsimp only at hSw); go_simp; (try with_reducible rfl))
                  try simp only [Act.put, List.setIfInBounds_toArray, List.set_cons_zero, List.set_cons_succ]
                  refine wpAnyH_done (by kernel_rfl) ?_ _
                  clear hHeld
                  clear hfun
                  have hwr : IntKind.i64.wrap ((at_ : Int) + f.ins.length) = at_ + f.ins.length := by rw [IntKind.wrap_i64]; omega
                  go_wp2
                  go_roundw
                  case rel => exact ⟨m + 1, at_ + f.ins.length, by simp, by simp, by omega, by omega, HB5, by rw [Hid, HFn.out, show decide (m + 1 = 0) = false by simp]⟩
                  case measure => simp [intOf]; omega
                · simp only [hfe, if_false] at HFn
                  go_upto_region 20 with fail
                  refine wp_region_held_drew (S := (fun w' => w'.cell? ⟨w.heap.size, 0, none⟩ = some (.string ⟨C.shape.toArray⟩) ∧ w'.cell? ⟨w.heap.size, 1, none⟩ = some (.slice ao C.ops.length co) ∧ w'.cell? ⟨w.heap.size, 2, none⟩ = some (.slice ah C.hans.length ch) ∧ w'.cell? ⟨w.heap.size, 3, none⟩ = some (.slice (some ⟨g, k, none⟩) C.funs.length cf) ∧ w'.cell? ⟨g, k + m * 3, none⟩ = some (.int .i64 f.free) ∧ w'.cell? ⟨g, k + m * 3 + 1, none⟩ = some (.int .i64 f.slots) ∧ w'.cell? ⟨g, k + m * 3 + 2, none⟩ = some (.slice ai f.ins.length ci))) (by kernel_rfl) (by first | trivial | ((try dsimp only); go_keep)) (fun hHeld => ?_)
                  refine wpAnyH_take (i := 0) (v := ?vve14) rfl (by kernel_rfl) (by kernel_rfl) (by kernel_rfl) (fun _ _ _ h => h) (Or.inl ⟨by rfl, ?yye14⟩) (by assumption) ?rre14
                  case yye14 => (intro w' hSw; (try dsimp only at hSw); go_simp; (try with_reducible rfl))
                  try simp only [Act.put, List.setIfInBounds_toArray, List.set_cons_zero, List.set_cons_succ]
                  refine wpAnyH_take (i := 1) (v := ?vve15) rfl (by kernel_rfl) (by kernel_rfl) (by kernel_rfl) (fun _ _ _ h => h) (Or.inl ⟨by rfl, ?yye15⟩) (by assumption) ?rre15
                  case yye15 => (intro w' hSw; (try dsimp only at hSw); go_simp; (try with_reducible rfl))
                  try simp only [Act.put, List.setIfInBounds_toArray, List.set_cons_zero, List.set_cons_succ]
                  refine wpAnyH_take (i := 2) (v := ?vve16) rfl (by kernel_rfl) (by kernel_rfl) (by kernel_rfl) (fun _ _ _ h => h) (Or.inl ⟨by rfl, ?yye16⟩) (by assumption) ?rre16
                  case yye16 => (intro w' hSw; (try dsimp only at hSw); go_simp; (try with_reducible rfl))
                  try simp only [Act.put, List.setIfInBounds_toArray, List.set_cons_zero, List.set_cons_succ]
                  refine wpAnyH_take (i := 3) (v := ?vve17) rfl (by kernel_rfl) (by kernel_rfl) (by kernel_rfl) (fun _ _ _ h => h) (Or.inl ⟨by rfl, ?yye17⟩) (by assumption) ?rre17
                  case yye17 => (intro w' hSw; (try dsimp only at hSw); go_simp; (try with_reducible rfl))
                  try simp only [Act.put, List.setIfInBounds_toArray, List.set_cons_zero, List.set_cons_succ]
                  refine wpAnyH_take (i := 4) (v := ?vve18) rfl (by kernel_rfl) (by kernel_rfl) (by kernel_rfl) (fun _ _ _ h => h) (Or.inl ⟨by rfl, ?yye18⟩) (by assumption) ?rre18
                  case yye18 => (intro w' hSw; (try dsimp only at hSw); go_simp; (try with_reducible rfl))
                  try simp only [Act.put, List.setIfInBounds_toArray, List.set_cons_zero, List.set_cons_succ]
                  refine wpAnyH_take (i := 5) (v := ?vve19) rfl (by kernel_rfl) (by kernel_rfl) (by kernel_rfl) (fun _ _ _ h => h) (Or.inl ⟨by rfl, ?yye19⟩) (by assumption) ?rre19
                  case yye19 => (intro w' hSw; (try dsimp only at hSw); go_simp; (try with_reducible rfl))
                  try simp only [Act.put, List.setIfInBounds_toArray, List.set_cons_zero, List.set_cons_succ]
                  refine wpAnyH_take (i := 6) (v := ?vve20) rfl (by kernel_rfl) (by kernel_rfl) (by kernel_rfl) (fun _ _ _ h => h) (Or.inl ⟨by rfl, ?yye20⟩) (by assumption) ?rre20
                  case yye20 => (intro w' hSw; (try dsimp only at hSw); go_simp; (try with_reducible rfl))
                  try simp only [Act.put, List.setIfInBounds_toArray, List.set_cons_zero, List.set_cons_succ]
                  refine wpAnyH_take (i := 7) (v := ?vve21) rfl (by kernel_rfl) (by kernel_rfl) (by kernel_rfl) (fun _ _ _ h => h) (Or.inl ⟨by rfl, ?yye21⟩) (by assumption) ?rre21
                  case yye21 => (intro w' hSw; (try dsimp only at hSw); go_simp; (try with_reducible rfl))
                  try simp only [Act.put, List.setIfInBounds_toArray, List.set_cons_zero, List.set_cons_succ]
                  refine wpAnyH_ready (rs := [8]) (by kernel_rfl) (by simp) (AllReadyH.cons rfl (fun K hK => ?_) AllReadyH.nil)
                  go_simp
                  refine (hfun _ HBd.out).mono ?_
                  rintro en w5 ⟨rfl, hb5⟩
                  have HB5 := hid (below_trans HBd.out hb5)
                  clear hb5 d0 d1 d2 d3 e0 e1 e2
                  have d0 := kc HB5.out c0
                  have d1 := kc HB5.out c1
                  have d2 := kc HB5.out c2
                  have d3 := kc HB5.out c3
                  have e0 := kc (below_trans hbW HB5.out) q0
                  have e1 := kc (below_trans hbW HB5.out) q1
                  have e2 := kc (below_trans hbW HB5.out) q2
                  dsimp only
                  clear hHeld
                  refine hK.out _ _ ?hs (fun hHeld => ?_)
                  case hs => (first | trivial | ((try dsimp only); go_keep) | ((try dsimp only); simp [*, World.cell?_alloc_some, World.cell?_setCell_far, World.cell?_setCell_other]))
                  clear hK K
                  try simp only [Act.put, List.setIfInBounds_toArray, List.set_cons_zero, List.set_cons_succ]
                  refine wpAnyH_take (i := 9) (v := ?vve22) rfl (by kernel_rfl) (by kernel_rfl) (by kernel_rfl) (fun _ _ _ h => h) (Or.inl ⟨by rfl, ?yye22⟩) (by assumption) ?rre22
                  case yye22 => (intro w' hSw; (try dsimp only at hSw); go_simp; (try with_reducible rfl))
                  try simp only [Act.put, List.setIfInBounds_toArray, List.set_cons_zero, List.set_cons_succ]
                  refine wpAnyH_take (i := 10) (v := ?vve23) rfl (by kernel_rfl) (by kernel_rfl) (by kernel_rfl) (fun _ _ _ h => h) (Or.inl ⟨by rfl, ?yye23⟩) (by assumption) ?rre23
                  case yye23 => (intro w' hSw; (try dsimp only at hSw); go_simp; (try with_reducible rfl))
                  try simp only [Act.put, List.setIfInBounds_toArray, List.set_cons_zero, List.set_cons_succ]
                  refine wpAnyH_take (i := 11) (v := ?vve24) rfl (by kernel_rfl) (by kernel_rfl) (by kernel_rfl) (fun _ _ _ h => h) (Or.inl ⟨by rfl, ?yye24⟩) (by assumption) ?rre24
                  case yye24 => (intro w' hSw; (try dsimp only at hSw); go_simp; (try with_reducible rfl))
                  try simp only [Act.put, List.setIfInBounds_toArray, List.set_cons_zero, List.set_cons_succ]
                  refine wpAnyH_take (i := 12) (v := ?vve25) rfl (by kernel_rfl) (by kernel_rfl) (by kernel_rfl) (fun _ _ _ h => h) (Or.inl ⟨by rfl, ?yye25⟩) (by assumption) ?rre25
                  case yye25 => (intro w' hSw; (try dsimp only at hSw); go_simp; (try with_reducible rfl))
                  try simp only [Act.put, List.setIfInBounds_toArray, List.set_cons_zero, List.set_cons_succ]
                  refine wpAnyH_take (i := 13) (v := ?vve26) rfl (by kernel_rfl) (by kernel_rfl) (by kernel_rfl) (fun _ _ _ h => h) (Or.inl ⟨by rfl, ?yye26⟩) (by assumption) ?rre26
                  case yye26 => (intro w' hSw; (try dsimp only at hSw); go_simp; (try with_reducible rfl))
                  try simp only [Act.put, List.setIfInBounds_toArray, List.set_cons_zero, List.set_cons_succ]
                  refine wpAnyH_done (by kernel_rfl) ?_ _
                  clear hHeld
                  clear hfun
                  have hwr : IntKind.i64.wrap ((at_ : Int) + fi) = at_ + fi := by rw [IntKind.wrap_i64]; omega
                  have hbk : w5.heap[w.heap.size + 1]? = some (.cells #[.int .i64 0, .int .i64 0] 37 (0, 0)) := (HB5.out.block _ (Array.getElem?_eq_some_iff.1 cF).1).trans cF
                  obtain ⟨x0, x1, x2, x3, x4⟩ := fault_box hbk
                  have X4 := hid x4
                  clear x4
                  go_wp2
                  obtain ⟨y0, y1, _⟩ := fault_box (X4.out (.int .i64 fe) (.int .i64 ((at_ : Int) + fi)))
                  exact chk_fin rfl rfl y0 (by rw [Int.natCast_add]; exact y1) HFn.out (below_set2 (below_trans hbW HB5.out) (Nat.le_succ _))
              · have em : m = C.funs.length := by omega
                subst em
                have hgl : ¬ (C.funs.length : Int) < C.funs.length := by omega
                have hbk : wr.heap[w.heap.size + 1]? = some (.cells #[.int .i64 0, .int .i64 0] 37 (0, 0)) := (HB.out.block _ (Array.getElem?_eq_some_iff.1 cF).1).trans cF
                obtain ⟨x0, x1, x2, x3, x4⟩ := fault_box hbk
                have X4 := hid x4
                clear x4
                go_wp2
                obtain ⟨y0, y1, _⟩ := fault_box (X4.out (.int .i64 0) (.int .i64 0))
                refine chk_fin rfl rfl y0 y1 ?_ (below_set2 (below_trans hbW HB.out) (Nat.le_succ _))
                rw [HF.out, List.drop_length]
                rfl
          · simp only [if_true] at HCk
            have hbk : wr.heap[w.heap.size + 1]? = some (.cells #[.int .i64 0, .int .i64 0] 37 (0, 0)) := (HB.out.block _ (Array.getElem?_eq_some_iff.1 cF).1).trans cF
            obtain ⟨x0, x1, x2, x3, x4⟩ := fault_box hbk
            have X4 := hid x4
            clear x4
            go_wp2
            obtain ⟨y0, y1, _⟩ := fault_box (X4.out (.int .i64 14) (.int .i64 0))
            exact chk_fin rfl rfl y0 y1 HCk.out (below_set2 (below_trans hbW HB.out) (Nat.le_succ _))
    | _ => exact h.elim
end Go.Proofs.Ytkfjjkpphpakbaa
