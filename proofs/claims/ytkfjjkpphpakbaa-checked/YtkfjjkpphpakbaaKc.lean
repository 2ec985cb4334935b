/-
  The program's soundHandlers.
-/
import Derived.Test.YtkfjjkpphpakbaaKb
set_option linter.unusedVariables false
set_option linter.unusedSimpArgs false
namespace Go.Proofs.Ytkfjjkpphpakbaa
open Go.RowKit Go.Maps

namespace Cd
theorem hb_take {n : Nat} {l : List Int} {j : Nat} (h : hb n (l.take j) = true) : hb n l = true := by
  unfold hb at h ⊢
  simp only [Bool.or_eq_true, Bool.not_eq_true', decide_eq_false_iff_not, List.any_eq_true] at h ⊢
  rcases h with ⟨x, h1, h2⟩ | h
  · exact .inl ⟨x, List.mem_of_mem_take h1, h2⟩
  · exact .inr (fun h2 => h (h2.sublist (List.take_sublist _ _)))
theorem any_han {C : Code} {h : Han} (hm : h ∈ C.hans) (hh : hb C.ops.length h.ops = true) : C.hans.any (hanBad C) = true := by
  rw [List.any_eq_true]
  exact ⟨h, hm, hh⟩
end Cd

theorem row_alloc {w : World} {b n : Nat} {t : TypeId} {f : Nat → Value} (h : w.rowIs b t n f) (o : Obj) : (w.alloc o).rowIs b t n f := by
  obtain ⟨c, h1, h2⟩ := h
  exact ⟨c, (Below.heap_alloc w o b (Array.getElem?_eq_some_iff.1 h1).1).trans h1, h2⟩
set_option maxRecDepth 100000 in
set_option maxHeartbeats 8000000 in
theorem sound_c (C : Cd.Code) (vb vc vd : Value) (w : World) (hM : CodeM w vb vc vd C) (hl1 : C.hans.length ≤ 65535) (hl3 : C.ops.length ≤ 255) (ho : ∀ h ∈ C.hans, h.ops.length ≤ 255) (hp : ∀ h ∈ C.hans, ∀ x ∈ h.ops, 0 ≤ x) :
    Calls Try.prog 15 #[codeV2 C vb vc vd] w fun e w' => e = .returned (.bool (!C.hans.any (Cd.hanBad C))) ∧ Below w.heap.size w w' := by
  unfold codeV2
  go_enter Try.func15, Try.ntmps15
  obtain ⟨⟨ao, co, rfl, hco, hx1⟩, ⟨ah, ch, rfl, hch, hx2⟩, ⟨af, cf, rfl, hcf, hx3⟩⟩ := hM
  have HX2 := hid hx2
  clear hx1 hx2 hx3
  have HO := hid ho
  have HPo := hid hp
  clear ho hp
  have hmk := run_make_row' (P := Try.prog) 48 3 (.int .i64 0) 8 Try.underlying48 Try.infoInt rfl .i64 .i64 C.ops.length (by omega) (by omega)
  go_wp2
  obtain ⟨W1, hW1⟩ : ∃ W1, w.alloc (.cells #[.string ⟨C.shape.toArray⟩, .slice ao C.ops.length co, .slice ah C.hans.length ch, .slice af C.funs.length cf] 26) = W1 := ⟨_, rfl⟩
  have hs1 : W1.heap.size = w.heap.size + 1 := by rw [← hW1]; simp
  have hb1 : Below w.heap.size w W1 := by rw [← hW1]; exact (Below.refl _ _).alloc (Nat.le_refl _) _
  have c1 : W1.cell? ⟨w.heap.size, 1, none⟩ = some (.slice ao C.ops.length co) := by rw [← hW1]; simp
  have HR0 : Hid ((W1.alloc (.cells (madeCells #[.int .i64 0] C.ops.length) 3)).rowIs W1.heap.size 3 C.ops.length (fun o => .int .i64 ((fun _ => 0 : Nat → Nat) o))) := (World.rowIs_made W1 _ C.ops.length 3).congr (fun j hj => rfl)
  have HB0 : Hid (Below W1.heap.size W1 (W1.alloc (.cells (madeCells #[.int .i64 0] C.ops.length) 3))) := (Below.refl _ _).alloc (Nat.le_refl _) _
  rw [hs1] at HR0
  rw [hW1]
  generalize W1.alloc (.cells (madeCells #[.int .i64 0] C.ops.length) 3) = W2 at HR0 HB0
  clear hW1
  go_loopw [15] (fun t wr => ∃ i : Nat, t = .int .i64 i ∧ i ≤ C.hans.length ∧ Hid (Below W1.heap.size W1 wr) ∧ (∃ L : Nat → Nat, (∀ o, L o ≤ i) ∧ Hid (wr.rowIs (w.heap.size + 1) 3 C.ops.length (fun o => .int .i64 (L o)))) ∧ Hid ((C.hans.take i).any (Cd.hanBad C) = false)) (fun t _ => C.hans.length - (intOf t).toNat)
  case atStart => exact ⟨0, rfl, Nat.zero_le _, HB0, ⟨fun _ => 0, fun _ => Nat.le_refl _, HR0⟩, by simp [Hid]⟩
  case round =>
    obtain ⟨i, rfl, hi, HB, ⟨L, hL, HR⟩, HA⟩ := hrel
    by_cases hlt : i < C.hans.length
    · obtain ⟨h, hh, htk, hmem, hne⟩ := at_some hlt
      obtain ⟨g, k, rfl, hcell⟩ := HX2.out hne
      obtain ⟨q0, u, q1, ai, ci, rfl, hci, hci2⟩ := hcell i h hh
      have e0 := kc (below_trans hb1 HB.out) q0
      have e1 := kc (below_trans hb1 HB.out) q1
      have HI := hid hci2
      have hol := HO.out h hmem
      have HPh := hid (HPo.out h hmem)
      have hgl : (i : Int) < C.hans.length := by omega
      have hgb : g < wr.heap.size := block_lt_of_cell e0
      have HAn : Hid ((C.hans.take (i + 1)).any (Cd.hanBad C) = Cd.hb C.ops.length h.ops) := by rw [Hid, Cd.any_take htk, Cd.hb_bad, HA.out, Bool.false_or]
      have HBd := hid (Cd.any_han (C := C) hmem)
      have HBA : Hid (Below W1.heap.size W1 (wr.alloc (.cells #[.bool h.shallow, .slice ai h.ops.length ci] 50))) := HB.out.alloc HB.out.size _
      have HRA : Hid ((wr.alloc (.cells #[.bool h.shallow, .slice ai h.ops.length ci] 50)).rowIs (w.heap.size + 1) 3 C.ops.length (fun o => .int .i64 (L o))) := row_alloc HR.out _
      clear hcell q0 q1 hci2 htk hne
      go_wp2
      generalize wr.alloc (.cells #[.bool h.shallow, .slice ai h.ops.length ci] 50) = wa at HBA HRA
      go_loopw [23] (fun t wr => ∃ j : Nat, t = .int .i64 j ∧ j ≤ h.ops.length ∧ Hid (Below W1.heap.size W1 wr) ∧ (∃ L : Nat → Nat, (∀ o, L o ≤ i + 1) ∧ Hid (∀ o : Nat, L o = i + 1 ↔ (o : Int) ∈ h.ops.take j) ∧ Hid (wr.rowIs (w.heap.size + 1) 3 C.ops.length (fun o => .int .i64 (L o)))) ∧ Hid (Cd.hb C.ops.length (h.ops.take j) = false)) (fun t _ => h.ops.length - (intOf t).toNat)
      case atStart => exact ⟨0, rfl, Nat.zero_le _, HBA, ⟨L, fun o => by have := hL o; omega, fun o => by have := hL o; simp; omega, HRA⟩, Cd.hb_nil _⟩
      case round =>
        obtain ⟨j, rfl, hj, HB2, ⟨L2, hL2, HI2, HR2⟩, HA2⟩ := hrel
        have d1 := kc HB2.out c1
        by_cases hlt2 : j < h.ops.length
        · obtain ⟨x, hx, htk2, hmem2, hne2⟩ := at_some hlt2
          obtain ⟨gi, ki, rfl, hcell2⟩ := HI.out hne2
          have y0 := kc (below_trans hb1 HB2.out) (hcell2 j x hx)
          have hgl2 : (j : Int) < h.ops.length := by omega
          have HSn : Hid (Cd.hb C.ops.length (h.ops.take (j + 1)) = (decide ((C.ops.length : Int) ≤ x) || (h.ops.take j).any (fun y => y == x))) := by rw [Hid, htk2, Cd.hb_snoc, HA2.out, Bool.false_or]
          have HTk := hid htk2
          obtain ⟨o, rfl⟩ := Int.eq_ofNat_of_zero_le (HPh.out x hmem2)
          clear hcell2 htk2 hne2
          by_cases hbel : o < C.ops.length
          · have hbd : decide ((0 : Int) ≤ (o : Int) ∧ (o : Int) < (C.ops.length : Int)) = true := by simp; omega
            have hol2 : (o : Int) < C.ops.length := by omega
            have z0 := HR2.out.cell hbel
            have zf := HR2.out.frozen o
            have hw1 : IntKind.i64.wrap ((i : Int) + 1) = i + 1 := by rw [IntKind.wrap_i64]; omega
            by_cases hm2 : L2 o = i + 1
            · have hq : (((L2 o : Nat) : Int) == (i : Int) + 1) = true := by simp; omega
              go_wp2_with (first
                | (go_at_call 26; refine (below_c _ _ _).mono ?_; rintro en w9 ⟨rfl, hw9⟩; obtain rfl := hw9.symm; rw [hbd])
                | go_in)
              go_ret
              refine ⟨ret_bool ?_, below_trans hb1 HB2.out⟩
              rw [HBd.out (Cd.hb_take (j := j + 1) (by rw [HSn.out, List.any_eq_true.2 ⟨(o : Int), (HI2.out o).1 hm2, by simp⟩]; simp))]
              rfl
            · have hq : (((L2 o : Nat) : Int) == (i : Int) + 1) = false := by simp; omega
              have HRn : Hid ((wr.setCell ⟨w.heap.size + 1, o, none⟩ (.int .i64 ((i : Int) + 1))).rowIs (w.heap.size + 1) 3 C.ops.length (fun q => .int .i64 ((if q = o then i + 1 else L2 q : Nat)))) := by
                refine (HR2.out.set o _).congr ?_
                intro q hq
                by_cases e : q = o
                · rw [if_pos e, if_pos e]; simp
                · rw [if_neg e, if_neg e]
              have HBn : Hid (Below W1.heap.size W1 (wr.setCell ⟨w.heap.size + 1, o, none⟩ (.int .i64 ((i : Int) + 1)))) := HB2.out.setCell (by rw [hs1]; exact Nat.le_refl _) _
              go_wp2_with (first
                | (go_at_call 26; refine (below_c _ _ _).mono ?_; rintro en w9 ⟨rfl, hw9⟩; obtain rfl := hw9.symm; rw [hbd])
                | go_in)
              go_roundw
              case rel =>
                refine ⟨j + 1, by simp, by omega, HBn, ⟨fun q => if q = o then i + 1 else L2 q, fun q => ?_, fun q => ?_, HRn⟩, ?_⟩
                · have := hL2 q
                  dsimp only
                  split <;> omega
                · rw [HTk.out]
                  have h2 := HI2.out q
                  dsimp only
                  by_cases e : q = o
                  · rw [if_pos e]; simp [e]
                  · rw [if_neg e, h2]; simp; intro h; omega
                · rw [Hid, HSn.out]
                  have h1 : decide ((C.ops.length : Int) ≤ (o : Int)) = false := by simp; omega
                  rw [h1, Bool.false_or]
                  rw [List.any_eq_false]
                  intro y hy e
                  have e2 : y = (o : Int) := by simpa using e
                  rw [e2] at hy
                  exact hm2 ((HI2.out o).2 hy)
              case measure => simp [intOf]; omega
          · have hbd : decide ((0 : Int) ≤ (o : Int) ∧ (o : Int) < (C.ops.length : Int)) = false := by simp; omega
            go_wp2_with (first
              | (go_at_call 26; refine (below_c _ _ _).mono ?_; rintro en w9 ⟨rfl, hw9⟩; obtain rfl := hw9.symm; rw [hbd])
              | go_in)
            go_ret
            refine ⟨ret_bool ?_, below_trans hb1 HB2.out⟩
            rw [HBd.out (Cd.hb_take (j := j + 1) (by rw [HSn.out]; simp; left; omega))]
            rfl
        · have ej : j = h.ops.length := by omega
          subst ej
          have hgl2 : ¬ (h.ops.length : Int) < h.ops.length := by omega
          go_wp2
          go_roundw
          case rel => exact ⟨i + 1, by simp, by omega, HB2, ⟨L2, hL2, HR2⟩, by rw [Hid, HAn.out]; have := HA2.out; rw [List.take_length] at this; exact this⟩
          case measure => simp [intOf]; omega
    · have ei : i = C.hans.length := by omega
      subst ei
      have hgl : ¬ (C.hans.length : Int) < C.hans.length := by omega
      go_wp2
      go_ret
      refine ⟨ret_bool ?_, below_trans hb1 HB.out⟩
      have := HA.out
      rw [List.take_length] at this
      rw [this]
      rfl
end Go.Proofs.Ytkfjjkpphpakbaa
