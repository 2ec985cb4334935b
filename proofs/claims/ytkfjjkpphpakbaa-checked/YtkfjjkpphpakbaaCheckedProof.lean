/-
  For every code the statement Checked answers true and the code reads as it did: of every code that Encode writes the program's Check tells what the document's does; of the empty code it tells ErrNumber. No condition.
-/
import Derived.Test.YtkfjjkpphpakbaaQa
import Derived.Test.YtkfjjkpphpakbaaCe
import Derived.Test.YtkfjjkpphpakbaaKi
set_option linter.unusedVariables false
set_option linter.unusedSimpArgs false
namespace Go.Proofs.Ytkfjjkpphpakbaa
open Go.ChangeShapes Go.WideShapes Go.ChangeAt Go.RowKit Go.Deep

/-- The code without anything. -/
def C00 : Cd.Code := ⟨[], [], [], []⟩
theorem chk00 : Cd.chk C00 = (14, 0) := by decide
theorem ok00 : Cd.ok C00 = true := by decide
theorem codeM00 (w : World) : CodeM w (.slice none 0 0) (.slice none 0 0) (.slice none 0 0) C00 :=
  ⟨⟨none, 0, rfl, Nat.le_refl _, fun h => absurd rfl h⟩, ⟨none, 0, rfl, Nat.le_refl _, fun h => absurd rfl h⟩, ⟨none, 0, rfl, Nat.le_refl _, fun h => absurd rfl h⟩⟩
/-- The code that stands in for what is not written. -/
def C01 : Cd.Code := ⟨[105], [], [], [⟨0, 0, [⟨0, 0, 0, 1⟩, ⟨17, 0, 0, 0⟩]⟩]⟩
theorem ok01 : Cd.ok C01 = true := by decide
theorem codeM01 {w : World} {b c : Nat} (h0 : w.heap[c]? = some (.cells #[.int .i64 0, .int .i64 0, .slice (some ⟨b, 0, none⟩) 2 2] 35 (0, 0))) (h1 : w.heap[b]? = some (.cells #[.int .i64 0, .int .i64 0, .int .i64 0, .int .i64 1, .int .i64 17, .int .i64 0, .int .i64 0, .int .i64 0] 32 (0, 0))) : CodeM w (.slice none 0 0) (.slice none 0 0) (.slice (some ⟨c, 0, none⟩) 1 1) C01 := by
  refine ⟨⟨none, 0, rfl, Nat.le_refl _, fun h => absurd rfl h⟩, ⟨none, 0, rfl, Nat.le_refl _, fun h => absurd rfl h⟩, ⟨some ⟨c, 0, none⟩, 1, rfl, Nat.le_refl _, fun _ => ⟨c, 0, rfl, fun i x hx => ?_⟩⟩⟩
  match i, hx with
  | 0, hx =>
    simp [C01] at hx
    subst hx
    refine ⟨by simp [World.cell?, h0], by simp [World.cell?, h0], .slice (some ⟨b, 0, none⟩) 2 2, by simp [World.cell?, h0], some ⟨b, 0, none⟩, 2, rfl, Nat.le_refl _, fun _ => ⟨b, 0, rfl, fun j y hy => ?_⟩⟩
    match j, hy with
    | 0, hy =>
      simp at hy
      subst hy
      refine ⟨?_, ?_, ?_, ?_⟩ <;> simp [World.cell?, h1]
    | 1, hy =>
      simp at hy
      subst hy
      refine ⟨?_, ?_, ?_, ?_⟩ <;> simp [World.cell?, h1]

theorem enc_zero {C : Cd.Code} (h : (Cd.enc C).2 = 0) : Cd.ok C = true := by
  unfold Cd.enc at h
  by_cases e : Cd.ok C = true
  · exact e
  · rw [if_neg e] at h
    cases h
theorem rcheck_ok (C : Cd.Code) (vb vc vd : Value) (w : World) (hM : CodeM w vb vc vd C) (hok : Cd.ok C = true) : Calls Try.prog 8 #[codeV2 C vb vc vd] w (ChkPost C w) := by
  have hcn : C.shape.length ≤ 65535 ∧ C.ops.length ≤ 255 ∧ C.hans.length ≤ 65535 ∧ C.funs.length ≤ 65535 := by
    have h := hok
    unfold Cd.ok Cd.counts at h
    simp only [Bool.and_eq_true, decide_eq_true_eq] at h
    exact ⟨h.1.1.1.1.1.1, h.1.1.1.1.1.2, h.1.1.1.1.2, h.1.1.1.2⟩
  exact rcheck_any C vb vc vd w hM (Cd.ok_small hok) hcn.1 hcn.2.2.1 hcn.2.2.2 hcn.2.1

set_option maxRecDepth 100000 in
set_option maxHeartbeats 4000000 in
theorem Checked_any (C : Cd.Code) (b c d : Value) (w : World) (hM : CodeM w b c d C) :
    Calls Try.prog 4 #[codeV C b c d] w fun e w' => e = .returned (.bool true) ∧ Below w.heap.size w w' := by
  have HM := hid hM
  obtain ⟨⟨ao, co, rfl, hco, hx1⟩, ⟨ah, ch, rfl, hch, hx2⟩, ⟨af, cf, rfl, hcf, hx3⟩⟩ := hM
  clear hx1 hx2 hx3
  have HR := hid (fun (W : World) (hb : Below w.heap.size w W) => encode_any C _ _ _ W (HM.out.keep hb))
  have HZ := hid (fun (h : (Cd.enc C).2 = 0) => enc_zero h)
  have QE := fun (W : World) => ccheck_any C00 _ _ _ W (codeM00 W) ok00
  unfold ChcPost codeV2 at QE
  rw [chk00] at QE
  unfold C00 at QE
  dsimp only at QE
  unfold codeV encE at HR
  unfold codeV
  have hB0 := hid ((Below.refl w.heap.size w).alloc (Nat.le_refl _) (.cells #[.string ⟨C.shape.toArray⟩, .slice ao C.ops.length co, .slice ah C.hans.length ch, .slice af C.funs.length cf] 26))
  generalize (Cd.enc C).1 = bs at *
  generalize (Cd.enc C).2 = ec at *
  by_cases hec : ec = 0
  · subst hec
    have hok := HZ.out rfl
    have QC := fun (W : World) (hb : Below w.heap.size w W) => ccheck_any C _ _ _ W (HM.out.keep hb) hok
    have QR := fun (W : World) (hb : Below w.heap.size w W) => rcheck_ok C _ _ _ W (HM.out.keep hb) hok
    unfold ChcPost codeV2 at QC
    unfold ChkPost codeV2 at QR
    generalize (Cd.chk C).1 = k0 at *
    generalize (Cd.chk C).2 = k1 at *
    replace hok := hid hok
    go_enter Try.func4, Try.ntmps4
    go_wp2_with (first
      | (go_at_call 6; refine (HR.out _ hB0.out).mono ?_; clear HR; rintro en w1 ⟨rfl, h1⟩
         have q0 := kc h1 (show (w.alloc (.cells #[.string ⟨C.shape.toArray⟩, .slice ao C.ops.length co, .slice ah C.hans.length ch, .slice af C.funs.length cf] 26)).cell? ⟨w.heap.size, 0, none⟩ = some (.string ⟨C.shape.toArray⟩) by simp)
         have q1 := kc h1 (show (w.alloc (.cells #[.string ⟨C.shape.toArray⟩, .slice ao C.ops.length co, .slice ah C.hans.length ch, .slice af C.funs.length cf] 26)).cell? ⟨w.heap.size, 1, none⟩ = some (.slice ao C.ops.length co) by simp)
         have q2 := kc h1 (show (w.alloc (.cells #[.string ⟨C.shape.toArray⟩, .slice ao C.ops.length co, .slice ah C.hans.length ch, .slice af C.funs.length cf] 26)).cell? ⟨w.heap.size, 2, none⟩ = some (.slice ah C.hans.length ch) by simp)
         have q3 := kc h1 (show (w.alloc (.cells #[.string ⟨C.shape.toArray⟩, .slice ao C.ops.length co, .slice ah C.hans.length ch, .slice af C.funs.length cf] 26)).cell? ⟨w.heap.size, 3, none⟩ = some (.slice af C.funs.length cf) by simp)
         have hB1 := hid (hB0.out.trans (h1.mono (by simp)))
         have hs1 : w.heap.size < w1.heap.size := block_lt_of_cell q0
         clear h1 hB0)
      | (go_at_call_of 7 (Value.agg #[.string ⟨#[]⟩, .slice none 0 0, .slice none 0 0, .slice none 0 0]); refine (QE _).mono ?_; clear QE; rintro en w2 ⟨rfl, h2⟩
         have p0 := kc h2 q0
         have p1 := kc h2 q1
         have p2 := kc h2 q2
         have p3 := kc h2 q3
         have hB2 := hid ((hB1.out.trans (h2.mono hB1.out.size)).alloc (Nat.le_trans hB1.out.size h2.size) (.cells #[.int .i64 14, .int .i64 0] 37))
         have hs2 : w.heap.size < w2.heap.size := block_lt_of_cell p0
         clear h2 q0 q1 q2 q3)
      | (go_at_call 7; refine (QC _ hB2.out).mono ?_; clear QC; rintro en w3 ⟨rfl, h3⟩
         have r0 := kc h3 (kc ((Below.refl w2.heap.size w2).alloc (Nat.le_refl _) (.cells #[.int .i64 14, .int .i64 0] 37)) p0)
         have r1 := kc h3 (kc ((Below.refl w2.heap.size w2).alloc (Nat.le_refl _) (.cells #[.int .i64 14, .int .i64 0] 37)) p1)
         have r2 := kc h3 (kc ((Below.refl w2.heap.size w2).alloc (Nat.le_refl _) (.cells #[.int .i64 14, .int .i64 0] 37)) p2)
         have r3 := kc h3 (kc ((Below.refl w2.heap.size w2).alloc (Nat.le_refl _) (.cells #[.int .i64 14, .int .i64 0] 37)) p3)
         have hB3 := hid ((hB2.out.trans (h3.mono hB2.out.size)).alloc (Nat.le_trans hB2.out.size h3.size) (.cells #[.int .i64 k0, .int .i64 (k1 : Nat)] 37))
         have hs3 : w.heap.size < w3.heap.size := block_lt_of_cell r0
         clear h3 p0 p1 p2 p3)
      | (go_at_call 8; refine (QR _ hB3.out).mono ?_; clear QR; rintro en w4 ⟨rfl, h4⟩
         have t0 := kc h4 (show (w3.alloc (.cells #[.int .i64 k0, .int .i64 (k1 : Nat)] 37)).cell? ⟨w3.heap.size, 0, none⟩ = some (.int .i64 k0) by simp)
         have t1 := kc h4 (show (w3.alloc (.cells #[.int .i64 k0, .int .i64 (k1 : Nat)] 37)).cell? ⟨w3.heap.size, 1, none⟩ = some (.int .i64 (k1 : Nat)) by simp)
         have hs4 : w3.heap.size < w4.heap.size := block_lt_of_cell t0
         have hB4 := hid ((hB3.out.trans (h4.mono hB3.out.size)).alloc (Nat.le_trans hB3.out.size h4.size) (.cells #[.int .i64 k0, .int .i64 (k1 : Nat)] 37))
         clear h4)
      | go_in)
    go_ret
    exact ⟨ret_bool (by simp), hB4.out⟩
  · have hec2 : (((ec : Nat) : Int) != 0) = true := by simp; omega
    have QC := fun (W : World) vb vc vd (hm : CodeM W vb vc vd C01) => ccheck_any C01 vb vc vd W hm ok01
    have QR := fun (W : World) vb vc vd (hm : CodeM W vb vc vd C01) => rcheck_ok C01 vb vc vd W hm ok01
    unfold ChcPost codeV2 at QC
    unfold ChkPost codeV2 at QR
    generalize (Cd.chk C01).1 = k0 at *
    generalize (Cd.chk C01).2 = k1 at *
    have e01 : C01.shape.toArray = #[105] := rfl
    rw [e01] at QC QR
    go_enter Try.func4, Try.ntmps4
    go_upto_region 4 with (first
      | (go_at_call 6; refine (HR.out _ hB0.out).mono ?_; clear HR; rintro en w1 ⟨rfl, h1⟩
         have q0 := kc h1 (show (w.alloc (.cells #[.string ⟨C.shape.toArray⟩, .slice ao C.ops.length co, .slice ah C.hans.length ch, .slice af C.funs.length cf] 26)).cell? ⟨w.heap.size, 0, none⟩ = some (.string ⟨C.shape.toArray⟩) by simp)
         have q1 := kc h1 (show (w.alloc (.cells #[.string ⟨C.shape.toArray⟩, .slice ao C.ops.length co, .slice ah C.hans.length ch, .slice af C.funs.length cf] 26)).cell? ⟨w.heap.size, 1, none⟩ = some (.slice ao C.ops.length co) by simp)
         have q2 := kc h1 (show (w.alloc (.cells #[.string ⟨C.shape.toArray⟩, .slice ao C.ops.length co, .slice ah C.hans.length ch, .slice af C.funs.length cf] 26)).cell? ⟨w.heap.size, 2, none⟩ = some (.slice ah C.hans.length ch) by simp)
         have q3 := kc h1 (show (w.alloc (.cells #[.string ⟨C.shape.toArray⟩, .slice ao C.ops.length co, .slice ah C.hans.length ch, .slice af C.funs.length cf] 26)).cell? ⟨w.heap.size, 3, none⟩ = some (.slice af C.funs.length cf) by simp)
         have hB1 := hid (hB0.out.trans (h1.mono (by simp)))
         have hs1 : w.heap.size < w1.heap.size := block_lt_of_cell q0
         have hbx : w1.heap[w.heap.size]? = some (.cells #[.string ⟨C.shape.toArray⟩, .slice ao C.ops.length co, .slice ah C.hans.length ch, .slice af C.funs.length cf] 26 (0, 0)) := (h1.block _ (by simp)).trans (World.alloc_heap_new w _)
         have hfz : ∀ i, w1.frozen? ⟨w.heap.size, i, none⟩ = false := fun i => by simp [World.frozen?, hbx]
         replace hbx := hid hbx
         clear h1 hB0)
      | go_in)
    obtain ⟨W3, hW3⟩ : ∃ W3, (((((w1.setCell ⟨w.heap.size, 0, none⟩ (.string ⟨#[105]⟩)).setCell ⟨w.heap.size, 1, none⟩ (.slice none 0 0)).setCell ⟨w.heap.size, 2, none⟩ (.slice none 0 0)).setCell ⟨w.heap.size, 3, none⟩ (.slice (some ⟨w1.heap.size + 1, 0, none⟩) 1 1)).alloc (.cells #[.int .i64 0, .int .i64 0, .int .i64 0, .int .i64 1, .int .i64 17, .int .i64 0, .int .i64 0, .int .i64 0] 32)).alloc (.cells #[.int .i64 0, .int .i64 0, .slice (some ⟨w1.heap.size, 0, none⟩) 2 2] 35) = W3 := ⟨_, rfl⟩
    have hB1' : Below w.heap.size w W3 := by
      rw [← hW3]
      exact (((((hB1.out.setCell (Nat.le_refl _) _).setCell (Nat.le_refl _) _).setCell (Nat.le_refl _) _).setCell (Nat.le_refl _) _).alloc (by simp; omega) _).alloc (by simp; omega) _
    have q0 : W3.cell? ⟨w.heap.size, 0, none⟩ = some (.string ⟨#[105]⟩) := by
      have hb : W3.heap[w.heap.size]? = some (.cells #[.string ⟨#[105]⟩, .slice none 0 0, .slice none 0 0, .slice (some ⟨w1.heap.size + 1, 0, none⟩) 1 1] 26 (0, 0)) := by rw [← hW3]; exact blk_alloc (blk_alloc (blk_set (blk_set (blk_set (blk_set hbx.out)))))
      simp [World.cell?, hb]
    have q1 : W3.cell? ⟨w.heap.size, 1, none⟩ = some (.slice none 0 0) := by
      have hb : W3.heap[w.heap.size]? = some (.cells #[.string ⟨#[105]⟩, .slice none 0 0, .slice none 0 0, .slice (some ⟨w1.heap.size + 1, 0, none⟩) 1 1] 26 (0, 0)) := by rw [← hW3]; exact blk_alloc (blk_alloc (blk_set (blk_set (blk_set (blk_set hbx.out)))))
      simp [World.cell?, hb]
    have q2 : W3.cell? ⟨w.heap.size, 2, none⟩ = some (.slice none 0 0) := by
      have hb : W3.heap[w.heap.size]? = some (.cells #[.string ⟨#[105]⟩, .slice none 0 0, .slice none 0 0, .slice (some ⟨w1.heap.size + 1, 0, none⟩) 1 1] 26 (0, 0)) := by rw [← hW3]; exact blk_alloc (blk_alloc (blk_set (blk_set (blk_set (blk_set hbx.out)))))
      simp [World.cell?, hb]
    have q3 : W3.cell? ⟨w.heap.size, 3, none⟩ = some (.slice (some ⟨w1.heap.size + 1, 0, none⟩) 1 1) := by
      have hb : W3.heap[w.heap.size]? = some (.cells #[.string ⟨#[105]⟩, .slice none 0 0, .slice none 0 0, .slice (some ⟨w1.heap.size + 1, 0, none⟩) 1 1] 26 (0, 0)) := by rw [← hW3]; exact blk_alloc (blk_alloc (blk_set (blk_set (blk_set (blk_set hbx.out)))))
      simp [World.cell?, hb]
    have hm1 : Hid (CodeM W3 (.slice none 0 0) (.slice none 0 0) (.slice (some ⟨w1.heap.size + 1, 0, none⟩) 1 1) C01) := by
      refine codeM01 (b := w1.heap.size) ?_ ?_
      · rw [← hW3]
        have := World.alloc_heap_new ((((((w1.setCell ⟨w.heap.size, 0, none⟩ (.string ⟨#[105]⟩)).setCell ⟨w.heap.size, 1, none⟩ (.slice none 0 0)).setCell ⟨w.heap.size, 2, none⟩ (.slice none 0 0)).setCell ⟨w.heap.size, 3, none⟩ (.slice (some ⟨w1.heap.size + 1, 0, none⟩) 1 1)).alloc (.cells #[.int .i64 0, .int .i64 0, .int .i64 0, .int .i64 1, .int .i64 17, .int .i64 0, .int .i64 0, .int .i64 0] 32))) (.cells #[.int .i64 0, .int .i64 0, .slice (some ⟨w1.heap.size, 0, none⟩) 2 2] 35)
        simpa using this
      · rw [← hW3]
        have := World.alloc_heap_new ((((w1.setCell ⟨w.heap.size, 0, none⟩ (.string ⟨#[105]⟩)).setCell ⟨w.heap.size, 1, none⟩ (.slice none 0 0)).setCell ⟨w.heap.size, 2, none⟩ (.slice none 0 0)).setCell ⟨w.heap.size, 3, none⟩ (.slice (some ⟨w1.heap.size + 1, 0, none⟩) 1 1)) (.cells #[.int .i64 0, .int .i64 0, .int .i64 0, .int .i64 1, .int .i64 17, .int .i64 0, .int .i64 0, .int .i64 0] 32)
        exact blk_alloc (by simpa using this)
    rw [hW3]
    clear hW3 hB1 hbx hfz
    have hB1 := hid hB1'
    clear hB1'
    have hs1' : w.heap.size < W3.heap.size := block_lt_of_cell q0
    obtain ⟨cB, hcB⟩ : ∃ cB, w1.heap.size + 1 = cB := ⟨_, rfl⟩
    rw [hcB] at q3 hm1
    clear hcB
    go_wp2_with (first
      | (go_at_call_of 7 (Value.agg #[.string ⟨#[]⟩, .slice none 0 0, .slice none 0 0, .slice none 0 0]); refine (QE _).mono ?_; clear QE; rintro en w2 ⟨rfl, h2⟩
         have p0 := kc h2 q0
         have p1 := kc h2 q1
         have p2 := kc h2 q2
         have p3 := kc h2 q3
         have hm2 := hm1.out.keep (h2.alloc h2.size (.cells #[.int .i64 14, .int .i64 0] 37))
         have hB2 := hid ((hB1.out.trans (h2.mono hB1.out.size)).alloc (Nat.le_trans hB1.out.size h2.size) (.cells #[.int .i64 14, .int .i64 0] 37))
         have hs2 : w.heap.size < w2.heap.size := block_lt_of_cell p0
         replace hm2 := hid hm2
         clear h2 q0 q1 q2 q3)
      | (go_at_call 7; refine (QC _ _ _ _ hm2.out).mono ?_; clear QC; rintro en w3 ⟨rfl, h3⟩
         have r0 := kc h3 (kc ((Below.refl w2.heap.size w2).alloc (Nat.le_refl _) (.cells #[.int .i64 14, .int .i64 0] 37)) p0)
         have r1 := kc h3 (kc ((Below.refl w2.heap.size w2).alloc (Nat.le_refl _) (.cells #[.int .i64 14, .int .i64 0] 37)) p1)
         have r2 := kc h3 (kc ((Below.refl w2.heap.size w2).alloc (Nat.le_refl _) (.cells #[.int .i64 14, .int .i64 0] 37)) p2)
         have r3 := kc h3 (kc ((Below.refl w2.heap.size w2).alloc (Nat.le_refl _) (.cells #[.int .i64 14, .int .i64 0] 37)) p3)
         have hB3 := hid ((hB2.out.trans (h3.mono hB2.out.size)).alloc (Nat.le_trans hB2.out.size h3.size) (.cells #[.int .i64 k0, .int .i64 (k1 : Nat)] 37))
         have hs3 : w.heap.size < w3.heap.size := block_lt_of_cell r0
         have hm3 := hid (hm2.out.keep (h3.alloc h3.size (.cells #[.int .i64 k0, .int .i64 (k1 : Nat)] 37)))
         clear h3 p0 p1 p2 p3)
      | (go_at_call 8; refine (QR _ _ _ _ hm3.out).mono ?_; clear QR; rintro en w4 ⟨rfl, h4⟩
         have t0 := kc h4 (show (w3.alloc (.cells #[.int .i64 k0, .int .i64 (k1 : Nat)] 37)).cell? ⟨w3.heap.size, 0, none⟩ = some (.int .i64 k0) by simp)
         have t1 := kc h4 (show (w3.alloc (.cells #[.int .i64 k0, .int .i64 (k1 : Nat)] 37)).cell? ⟨w3.heap.size, 1, none⟩ = some (.int .i64 (k1 : Nat)) by simp)
         have hs4 : w3.heap.size < w4.heap.size := block_lt_of_cell t0
         have hB4 := hid ((hB3.out.trans (h4.mono hB3.out.size)).alloc (Nat.le_trans hB3.out.size h4.size) (.cells #[.int .i64 k0, .int .i64 (k1 : Nat)] 37))
         clear h4)
      | go_in)
    go_ret
    exact ⟨ret_bool (by simp), hB4.out⟩

theorem contract (H : Type) (enc : TypeId × Value → H) (W : World) (base : Nat) (args : Array Value) (ds gs : List (DataW H)) (before : List MemPlace)
    (hval : ∀ (j : Nat) t v, Try.f4.params[j]? = some t → args[j]? = some v → Value.okWide Try.prog W .any base t v)
    (hW : DataW.Whole enc Try.prog Try.f4.params.toList Rows.checkedSpec.vars false W args.toList ds gs before) :
    Calls Try.prog 4 args W fun e W' => ∃ v, e = .returned v ∧ Rows.checkedSpec.post enc Try.prog Try.f4 false true false false W args v W' := by
  have hW' := hW
  obtain ⟨p, q, hA0, hV, rfl, hfz, hnd⟩ := hW
  have hA : DataW.TrodAll enc Try.prog W 0 (fun _ => true) true Try.f4.params.toList args.toList ds p := hA0
  rw [Try.params4] at hA hval
  obtain ⟨v0, d0, rfl, rfl, h0⟩ := trodAll_one hA
  obtain ⟨rfl, rfl⟩ := trodVars_none hV
  obtain ⟨cs, rfl⟩ := okWide_code (hval 0 26 v0 rfl rfl)
  obtain ⟨fuel, hf⟩ := id h0
  obtain ⟨C, b, c, d, hcs, hM, hR, hs, hL⟩ := code_of hf
  have hcs2 : cs = #[.string ⟨C.shape.toArray⟩, b, c, d] := by
    have e : cs.toList = [.string ⟨C.shape.toArray⟩, b, c, d] := by simpa [Value.cells] using hcs
    rw [← Array.toArray_toList (xs := cs), e]
  subst hcs2
  simp only [List.append_nil] at hW'
  have hlt : ∀ x ∈ p, x.block < W.heap.size := fun x hx => by simpa using hW'.lt x hx
  refine (Checked_any C b c d W hM).mono fun e W' ⟨he, hb⟩ => ?_
  subst he
  refine ⟨_, rfl, _, _, _, [], p, [], hW', ?_, ?_, rfl, below_kept hb _, fun h => by cases h⟩
  · exact trodAll_mk1 (shut_bool Try.underlying4 _)
  · exact trodAll_mk1 (WideElems.Trod_stays (by kernel_rfl) (by kernel_rfl) (of_decide_eq_true (by kernel_rfl)) h0 (fun x hx => below_same_at hb (hlt x hx)) (fun x hx => by simpa using hlt x hx))

set_option maxRecDepth 100000 in
theorem lifted (os : Os) (started : os.Started) (H : Type) (enc : TypeId × Value → H) :
    ReturnsInHanded {} Try.checked os 4 .any (Rows.checkedSpec.pre6 enc Try.prog Try.f4 Rows.checkedRow.domain false) (Rows.checkedSpec.post enc Try.prog Try.f4 false true false false) := by
  refine returnsInHanded_of_change (C := Try.checked) knob started (by kernel_rfl) Try.func4
    (ChangeSpec.witness6 (enc := enc) (C := Try.checked) false ⟨#[], #[.agg #[.string ⟨#[]⟩, .slice none 0 0, .slice none 0 0, .slice none 0 0]], []⟩ 8 (by kernel_rfl) (by kernel_rfl) (by kernel_rfl) (by kernel_rfl)) ?_
  intro W base args ds gs before hval hW _ _
  exact contract H enc W base args ds gs before hval hW

theorem checked_holds : Rows.CheckedSaid :=
  OpenClaim.holds_of_wide 4 Try.f4 rfl rfl rfl rfl rfl rfl rfl ⟨rfl, rfl, rfl, rfl, rfl⟩ rfl rfl rfl rfl rfl (by kernel_rfl) Try.func4 (by kernel_rfl)
    (of_decide_eq_true (by kernel_rfl)) (by unfold Func.isWrapper; first | (rw [if_pos (by decide +kernel)]; kernel_rfl) | (rw [if_neg (by decide +kernel)]; exact ⟨rfl, rfl⟩))
    (fun os started H enc _ => lifted os started H enc)
#print axioms checked_holds
end Go.Proofs.Ytkfjjkpphpakbaa
