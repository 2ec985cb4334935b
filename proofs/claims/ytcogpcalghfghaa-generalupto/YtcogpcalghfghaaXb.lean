/-
  The statement's by, of a variable.
-/
import Derived.Test.YtcogpcalghfghaaMXa
set_option linter.unusedVariables false
set_option linter.unusedSimpArgs false
namespace Go.Proofs.Ytcogpcalghfghaa
open Go.RowKit
open Un (Nm ins joinB Srt RV rowW rvOf app)

set_option maxRecDepth 100000 in
set_option maxHeartbeats 8000000 in
theorem by_var (v : Nat) : ByOK (.var v) := by
  intro σ w0 w d a g o n c Z os az hc0 ha hM hσ hi hok _
  obtain ⟨qa, qc, qb, ql, qd, rfl, rfl, -⟩ := hi.slices
  have hFT : Hid (FT w0 0 v 0 (.slice qa (Ty.P.var v).ops.length qc) (.slice qb ql qd) (.var v)) := ⟨rfl, rfl, rfl, hi⟩
  have hRd : Hid (Rdd w0 1 (.slice qa (Ty.P.var v).ops.length qc) (.slice qb ql qd)) := hi.rdd (Nat.le_refl _) (by simp [Ty.P.parts])
  clear hi
  have e0 : ((Ty.P.var v).kind : Int) = 0 := rfl
  have e1 : ((Ty.P.var v).num : Int) = v := rfl
  have e2 : ((Ty.P.var v).row : Int) = 0 := rfl
  rw [e0, e1, e2]
  clear e0 e1 e2
  generalize (Ty.P.var v).ops.length = qo at *
  have hlen := hM.len
  replace hM := hid hM
  replace ha := hid ha
  replace hσ := hid hσ
  replace hc0 := hid hc0
  go_enter Try.func6, Try.ntmps6
  go_wp2
  have hbx : Hid ((((w.alloc (tyB 0 v 0 (.slice qa qo qc) (.slice qb ql qd))).alloc (tyB 0 0 0 (.slice none 0 0) (.slice none 0 0))).heap[w.heap.size]? = some (tyB 0 v 0 (.slice qa qo qc) (.slice qb ql qd)))) := blk_alloc (World.alloc_heap_new w _)
  have hbr : Hid ((((w.alloc (tyB 0 v 0 (.slice qa qo qc) (.slice qb ql qd))).alloc (tyB 0 0 0 (.slice none 0 0) (.slice none 0 0))).heap[w.heap.size + 1]? = some (tyB 0 0 0 (.slice none 0 0) (.slice none 0 0)))) := by
    have := World.alloc_heap_new (w.alloc (tyB 0 v 0 (.slice qa qo qc) (.slice qb ql qd))) (tyB 0 0 0 (.slice none 0 0) (.slice none 0 0))
    rw [World.size_alloc] at this
    exact this
  have hch : Hid (Ch (fun _ => False) w ((w.alloc (tyB 0 v 0 (.slice qa qo qc) (.slice qb ql qd))).alloc (tyB 0 0 0 (.slice none 0 0) (.slice none 0 0)))) := (al_ch w _).trans (al_ch _ _) (fun _ h => h.elim)
  generalize (w.alloc (tyB 0 v 0 (.slice qa qo qc) (.slice qb ql qd))).alloc (tyB 0 0 0 (.slice none 0 0) (.slice none 0 0)) = W1 at *
  have hne : w.heap.size ≠ w.heap.size + 1 := by omega
  have hle : w.heap.size ≤ w.heap.size + 1 := by omega
  have hle0 : Hid (w.heap.size ≤ w.heap.size) := Nat.le_refl _
  generalize w.heap.size + 1 = rb at *
  generalize hsz : w.heap.size = tb at *
  replace hsz := hid hsz
  go_loopg [5] (n + 1) (fun q v5 wr => ∃ i : Nat, v5 = .int .i64 (i : Nat) ∧ i ≤ n ∧ q = n + 1 - i ∧ Hid (∀ j, j < i → (Z j).n ≠ (v : Int)) ∧ Hid (Ch (fun _ => False) W1 wr))
  case atStart => exact ⟨0, rfl, by omega, by omega, fun j hj => absurd hj (by omega), Ch.refl _ _⟩
  case round =>
    obtain ⟨i, rfl, hi, rfl, hP, hC⟩ := hrel
    have hcw : Hid (Ch (fun _ => False) w0 wr) := (hc0.out.trans hch.out (fun _ h => h.elim)).trans hC.out (fun _ h => h.elim)
    have hww : Hid (Ch (fun _ => False) w wr) := hch.out.trans hC.out (fun _ h => h.elim)
    obtain ⟨⟨t0, t1, t2, t3, t4⟩, tf⟩ := ty_cells (hC.out.keeps hbx.out (fun h => h))
    obtain ⟨⟨r0, r1, r2, r3, r4⟩, rf⟩ := ty_cells (hC.out.keeps hbr.out (fun h => h))
    by_cases e : i < n
    · have i0 : (0 : Int) ≤ i := by omega
      have i1 : (i : Int) < (n : Int) := by omega
      have hwi : IntKind.i64.wrap ((i : Int) + 1) = (i : Int) + 1 := IntWalk.i64_in _ (by omega)
      obtain rfl := ha.out (by omega)
      obtain ⟨z1, ⟨z2, z3, z4, z5, z6⟩, -⟩ := (hM.out.c i e).keep hcw.out
      have hTT := hM.out.t i e
      obtain ⟨⟨f1, f2, f3, hf⟩, ⟨f4, f5, f6, hg⟩⟩ : isSl (Z i).t.os ∧ isSl (Z i).t.az := by
        have := hTT.rdb 1
        exact this.up
      rw [hf] at z5
      rw [hg] at z6
      replace hTT := hid hTT
      by_cases ez : (Z i).n = (v : Int)
      · rw [ez] at z1
        have hnew := hid ez
        clear ez
        go_wp2_with (go_quiet (fail))
        refine bodyPost_ret (v := tyV (Z i).t.k (Z i).t.n (Z i).t.r (.slice f1 f2 f3) (.slice f4 f5 f6)) (by simp [results, Try.results6, go_sem, r0, r1, r2, r3, r4, rf]) rfl ?_
        refine ⟨⟨(Z i).t.k, (Z i).t.n, (Z i).t.r, .slice f1 f2 f3, .slice f4 f5 f6⟩, d, rfl, ?_, ?_, fun u hu => ?_⟩
        · have h := hTT.out
          rw [hf, hg] at h
          exact (h.rdo.mono (fun k hk => .inl hk) (Nat.le_refl _)).keep (hc0.out.trans (set5_ch (hww.out.dn _) (.inr (by have := hsz.out; omega))) (fun _ h => h.elim)) (fun _ _ h => h)
        · exact set5_ch (hww.out.dn _) (.inr (by have := hsz.out; omega))
        · have h := hTT.out
          rw [hf, hg] at h
          have hb := hu.back (hc0.out.trans (set5_ch (hww.out.dn _) (.inr (by have := hsz.out; omega))) (fun _ h => h.elim)) h
          refine ((hσ.out v).2 i u e hnew.out hP.out ?_).symm
          unfold FTR
          rw [hf, hg]
          exact hb
      · go_wp2_with (go_quiet (fail))
        go_roundg (n - i)
        case measure => omega
        case rel =>
          refine ⟨i + 1, by simp, by omega, by omega, fun j hj => ?_, ?_⟩
          · by_cases ej : j = i
            · subst ej; exact ez
            · exact hP.out j (by omega)
          · first
              | exact hC
              | exact hC.out.trans (Ch.drew (fun _ => False) _) (fun _ h => h.elim)
              | exact hC.out.dn _
    · obtain rfl : i = n := by omega
      have i1 : ¬ (i : Int) < (i : Int) := by omega
      go_wp2
      refine bodyPost_ret (v := tyV 0 v 0 (.slice qa qo qc) (.slice qb ql qd)) (by simp [results, Try.results6, go_sem, r0, r1, r2, r3, r4, rf]) rfl ?_
      refine ⟨⟨0, v, 0, .slice qa qo qc, .slice qb ql qd⟩, 1, rfl, ?_, ?_, fun u hu => ?_⟩
      · exact (hRd.out.rdo.mono (fun k hk => .inl hk) (Nat.le_refl _)).keep (hc0.out.trans (set5_ch hww.out (.inr (by have := hsz.out; omega))) (fun _ h => h.elim)) (fun _ _ h => h)
      · exact set5_ch hww.out (.inr (by have := hsz.out; omega))
      · have hb := hu.back (hc0.out.trans (set5_ch hww.out (.inr (by have := hsz.out; omega))) (fun _ h => h.elim)) hRd.out
        rw [hb.one hFT.out]
        exact ((hσ.out v).1 hP.out).symm
end Go.Proofs.Ytcogpcalghfghaa
