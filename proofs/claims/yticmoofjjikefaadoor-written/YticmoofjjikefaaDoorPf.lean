/-
  The program's writer in memory: handler, function.
-/
import Derived.Test.YticmoofjjikefaaDoorPe
set_option linter.unusedVariables false
set_option linter.unusedSimpArgs false
namespace Go.Proofs.YticmoofjjikefaaDoor
open Go.RowKit Go.Lib

theorem kz_below {Z : Nat → Prop} {w0 w w' : World} (h : Below w0.heap.size w0 w) (k : Kz Z w w') (hZ : ∀ i, i < w0.heap.size → Z i) : Below w0.heap.size w0 w' :=
  ⟨k.os.trans h.os, k.tape.trans h.tape, k.output.trans h.output, Nat.le_trans h.size k.size, fun i hi => (k.same i (Nat.lt_of_lt_of_le hi h.size) (hZ i hi)).trans (h.block i hi)⟩
theorem fold_take {α β : Type} {f : β → α → β} {l : List α} {i : Nat} {x : α} {s : β} (h : l.take (i + 1) = l.take i ++ [x]) : (l.take (i + 1)).foldl f s = f ((l.take i).foldl f s) x := by
  rw [h, List.foldl_append]
  rfl
def hanV (h : Cd.Han) (v : Value) : Value := .agg #[.bool h.shallow, v]
def funV (f : Cd.Fun) (v : Value) : Value := .agg #[.int .i64 f.free, .int .i64 f.slots, v]

set_option maxHeartbeats 2000000 in
theorem handler_c (Z : Nat → Prop) (w0 w : World) (p : Nat) (s : Cd.WSt) (hn : Cd.Han) (v : Value) (h : WK Z w p s) (hZ : ∀ i, i < w0.heap.size → Z i) (hb : Below w0.heap.size w0 w) (hi : IntsM w0 v hn.ops) (hm : hn.ops.length ≤ maxLen) :
    Calls Tryd.prog 36 #[ptrV p, hanV hn v] w (WPost Z w p (Cd.whan hn s)) := by
  obtain ⟨ad, cap, rfl, hcap, hx⟩ := hi
  have HX := hid hx
  clear hx
  unfold maxLen at hm
  have H := hid (h.alloc (.cells #[.bool hn.shallow, .slice ad hn.ops.length cap] 59))
  clear h
  have HF := hid (fun (w1 : World) s1 b (h1 : WK (fun k => Z k ∨ k = w.heap.size) w1 p s1) => flag_c _ w1 p s1 b h1)
  have HN := hid (fun (w1 : World) s1 v (h1 : WK (fun k => Z k ∨ k = w.heap.size) w1 p s1) => number_any _ w1 p s1 v 1 h1 (by simp))
  have HP : Hid (Cd.whan hn s = hn.ops.foldl (fun s v => Cd.wnum v 1 s) (Cd.wnum hn.ops.length 1 (Cd.wflag hn.shallow s))) := rfl
  unfold ptrV at HF HN ⊢
  unfold hanV
  go_enter Tryd.func36, Tryd.ntmps36
  go_wp2_with (first
    | (go_at_call 35; refine (HF.out _ _ _ H.out).mono ?_; clear HF; rintro en w1 ⟨rfl, h1, k1⟩
       have d1 := kz_cells k1 (i := 1) (x := .slice ad hn.ops.length cap) rfl
       replace h1 := hid h1; replace k1 := hid k1)
    | (go_at_call 34; refine (HN.out _ _ _ h1.out).mono ?_; rintro en w2 ⟨rfl, h2, k2⟩
       have k2' := k1.out.trans k2
       have d2 := kz_cells k2' (i := 1) (x := .slice ad hn.ops.length cap) rfl
       replace h2 := hid h2; replace k2 := hid k2'; clear k2' h1)
    | go_in)
  have HS0 : Hid (WK (fun k => Z k ∨ k = w.heap.size) w2 p ((hn.ops.take 0).foldl (fun s v => Cd.wnum v 1 s) (Cd.wnum hn.ops.length 1 (Cd.wflag hn.shallow s))) ∧ Kz (fun k => Z k ∨ k = w.heap.size) (w.alloc (.cells #[.bool hn.shallow, .slice ad hn.ops.length cap] 59)) w2) := by
    refine ⟨?_, k2.out⟩
    rw [List.take_zero, List.foldl_nil]
    exact h2.out
  clear h2 k2 k1 d1 d2
  generalize Cd.wnum hn.ops.length 1 (Cd.wflag hn.shallow s) = s0 at *
  go_loopw [18] (fun t wr => ∃ i : Nat, t = .int .i64 i ∧ i ≤ hn.ops.length ∧ Hid (WK (fun k => Z k ∨ k = w.heap.size) wr p ((hn.ops.take i).foldl (fun s v => Cd.wnum v 1 s) s0) ∧ Kz (fun k => Z k ∨ k = w.heap.size) (w.alloc (.cells #[.bool hn.shallow, .slice ad hn.ops.length cap] 59)) wr)) (fun t _ => hn.ops.length - (intOf t).toNat)
  case atStart => exact ⟨0, rfl, Nat.zero_le _, HS0⟩
  case round =>
    obtain ⟨i, rfl, hi, HS⟩ := hrel
    by_cases hlt : i < hn.ops.length
    · obtain ⟨x, hx, htk, _, hne⟩ := at_some hlt
      obtain ⟨g, k, rfl, hc⟩ := HX.out hne
      have hbw : Below w0.heap.size w0 wr := kz_below hb (kz_out HS.out.2) hZ
      have c0 := kc hbw (hc i x hx)
      have hgl : (i : Int) < hn.ops.length := by omega
      clear hc hne
      have HT := hid htk
      clear htk
      go_wp2_with (first
        | (go_at_call 34; refine (HN.out _ _ _ HS.out.1).mono ?_; rintro en w3 ⟨rfl, h3, k3⟩
           replace h3 := hid h3; replace k3 := hid (HS.out.2.trans k3))
        | go_in)
      go_roundw
      case rel => exact ⟨i + 1, by simp, by omega, by rw [fold_take HT.out]; exact ⟨h3.out, k3.out⟩⟩
      case measure => simp [intOf]; omega
    · have e : i = hn.ops.length := by omega
      subst e
      have hgl : ¬ (hn.ops.length : Int) < hn.ops.length := by omega
      go_wp2
      refine bodyPost_end (results_none rfl _ _ _) rfl ⟨rfl, ?_⟩
      rw [HP.out]
      have := HS.out
      rw [List.take_length] at this
      exact ⟨wk_out this.1, kz_out this.2⟩

set_option maxHeartbeats 2000000 in
theorem function_c (Z : Nat → Prop) (w0 w : World) (p : Nat) (s : Cd.WSt) (f : Cd.Fun) (v : Value) (h : WK Z w p s) (hZ : ∀ i, i < w0.heap.size → Z i) (hb : Below w0.heap.size w0 w) (hi : InssM w0 v f.ins) (hm : f.ins.length ≤ maxLen) :
    Calls Tryd.prog 37 #[ptrV p, funV f v] w (WPost Z w p (Cd.wfun f s)) := by
  obtain ⟨ad, cap, rfl, hcap, hx⟩ := hi
  have HX := hid hx
  clear hx
  unfold maxLen at hm
  have H := hid (h.alloc (.cells #[.int .i64 f.free, .int .i64 f.slots, .slice ad f.ins.length cap] 62))
  clear h
  have HN := hid (fun (w1 : World) s1 v (h1 : WK (fun k => Z k ∨ k = w.heap.size) w1 p s1) => number_any _ w1 p s1 v 2 h1 (by simp))
  have HI := hid (fun (Z1 : Nat → Prop) (w1 : World) s1 x (h1 : WK Z1 w1 p s1) => instruction_c Z1 w1 p s1 x h1)
  have HP : Hid (Cd.wfun f s = f.ins.foldl (fun s x => Cd.wins x s) (Cd.wnum f.ins.length 2 (Cd.wnum f.slots 2 (Cd.wnum f.free 2 s)))) := rfl
  unfold ptrV at HN HI ⊢
  unfold funV
  go_enter Tryd.func37, Tryd.ntmps37
  go_wp2_with (first
    | (go_at_call 34; refine (HN.out _ _ _ H.out).mono ?_; rintro en w1 ⟨rfl, h1, k1⟩
       have d1 := kz_cells k1 (i := 1) (x := .int .i64 f.slots) rfl
       clear H
       replace h1 := hid h1; replace k1 := hid k1)
    | (go_at_call 34; refine (HN.out _ _ _ h1.out).mono ?_; rintro en w2 ⟨rfl, h2, k2⟩
       have k2' := k1.out.trans k2
       have d2 := kz_cells k2' (i := 2) (x := .slice ad f.ins.length cap) rfl
       clear h1
       replace h2 := hid h2; replace k2 := hid k2'; clear k2')
    | (go_at_call 34; refine (HN.out _ _ _ h2.out).mono ?_; clear HN; rintro en w3 ⟨rfl, h3, k3⟩
       have k3' := k2.out.trans k3
       have d3 := kz_cells k3' (i := 2) (x := .slice ad f.ins.length cap) rfl
       clear h2
       replace h3 := hid h3; replace k3 := hid k3'; clear k3')
    | go_in)
  have HS0 : Hid (WK (fun k => Z k ∨ k = w.heap.size) w3 p ((f.ins.take 0).foldl (fun s x => Cd.wins x s) (Cd.wnum f.ins.length 2 (Cd.wnum f.slots 2 (Cd.wnum f.free 2 s)))) ∧ Kz (fun k => Z k ∨ k = w.heap.size) (w.alloc (.cells #[.int .i64 f.free, .int .i64 f.slots, .slice ad f.ins.length cap] 62)) w3) := by
    refine ⟨?_, k3.out⟩
    rw [List.take_zero, List.foldl_nil]
    exact h3.out
  clear h3 k3 k2 k1 d1 d2 d3
  generalize Cd.wnum f.ins.length 2 (Cd.wnum f.slots 2 (Cd.wnum f.free 2 s)) = s0 at *
  go_loopw [22] (fun t wr => ∃ i : Nat, t = .int .i64 i ∧ i ≤ f.ins.length ∧ Hid (WK (fun k => Z k ∨ k = w.heap.size) wr p ((f.ins.take i).foldl (fun s x => Cd.wins x s) s0) ∧ Kz (fun k => Z k ∨ k = w.heap.size) (w.alloc (.cells #[.int .i64 f.free, .int .i64 f.slots, .slice ad f.ins.length cap] 62)) wr)) (fun t _ => f.ins.length - (intOf t).toNat)
  case atStart => exact ⟨0, rfl, Nat.zero_le _, HS0⟩
  case round =>
    obtain ⟨i, rfl, hi, HS⟩ := hrel
    by_cases hlt : i < f.ins.length
    · obtain ⟨x, hx, htk, _, hne⟩ := at_some hlt
      obtain ⟨g, k, rfl, hc⟩ := HX.out hne
      have hbw : Below w0.heap.size w0 wr := kz_below hb (kz_out HS.out.2) hZ
      obtain ⟨q0, q1, q2, q3⟩ := hc i x hx
      have c0 := kc hbw q0
      have c1 := kc hbw q1
      have c2 := kc hbw q2
      have c3 := kc hbw q3
      have hgb : g < wr.heap.size := block_lt_of_cell c0
      have hgl : (i : Int) < f.ins.length := by omega
      clear hc hne q0 q1 q2 q3
      have HT := hid htk
      clear htk
      have HA := hid (HS.out.1.alloc (.cells #[.int .i64 x.op, .int .i64 x.a, .int .i64 x.b, .int .i64 x.n] 64))
      have HIx := hid (HI.out _ _ _ x HA.out)
      unfold insV at HIx
      go_wp2_with (first
        | (go_at_call 53; refine HIx.out.mono ?_; rintro en w3 ⟨rfl, h3, k3⟩
           replace h3 := hid h3; replace k3 := hid (HS.out.2.trans (kz_out k3)))
        | go_in)
      go_roundw
      case rel => exact ⟨i + 1, by simp, by omega, by rw [fold_take HT.out]; exact ⟨wk_out h3.out, k3.out⟩⟩
      case measure => simp [intOf]; omega
    · have e : i = f.ins.length := by omega
      subst e
      have hgl : ¬ (f.ins.length : Int) < f.ins.length := by omega
      go_wp2
      refine bodyPost_end (results_none rfl _ _ _) rfl ⟨rfl, ?_⟩
      rw [HP.out]
      have := HS.out
      rw [List.take_length] at this
      exact ⟨wk_out this.1, kz_out this.2⟩
end Go.Proofs.YticmoofjjikefaaDoor
