/-
  Written: the statement's own walk.
-/
import Derived.Test.YticmoofjjikefaaDoorRj1
import Derived.Test.YticmoofjjikefaaDoorPh
import Derived.Test.YticmoofjjikefaaDoorCr
set_option linter.unusedVariables false
set_option linter.unusedSimpArgs false
namespace Go.Proofs.YticmoofjjikefaaDoor
open Go.RowKit Go.Lib

theorem blk_new {w : World} {o : Obj} : (w.alloc o).heap[w.heap.size]? = some o := heap_alloc_new _ _
theorem blk_new2 {w : World} {x o : Obj} : ((w.alloc x).alloc o).heap[w.heap.size + 1]? = some o := by
  have e : w.heap.size + 1 = (w.alloc x).heap.size := by simp
  rw [e]
  exact heap_alloc_new _ _
theorem lt_of_blk {w : World} {b : Nat} {o : Obj} (h : w.heap[b]? = some o) : b < w.heap.size := (Array.getElem?_eq_some_iff.1 h).1

namespace Cd
theorem ok_small2 {C : Code} (h : ok C = true) : C.small := by
  unfold ok counts at h
  simp only [Bool.and_eq_true, List.all_eq_true, decide_eq_true_eq] at h
  obtain ⟨⟨⟨⟨⟨⟨_, a⟩, b⟩, c⟩, _⟩, h2⟩, h3⟩ := h
  refine ⟨by omega, b, c, fun g hg => ?_, fun f hf => ?_⟩
  · have := h2 g hg
    simp only [hanOk, Bool.and_eq_true, decide_eq_true_eq] at this
    omega
  · have := h3 f hf
    simp only [funOk, fits, Bool.and_eq_true, decide_eq_true_eq] at this
    exact this.1.2
theorem enc_i : enc ⟨[105], [], [], []⟩ = ([69, 70, 49, 0, 1, 105, 0, 0, 0, 0, 0], 0) := by decide +kernel
theorem enc_no {C : Code} (h : ¬ (ok C = true ∧ (bytes C).length ≤ 4000000)) : ∃ e : Nat, e ≠ 0 ∧ enc C = ([], e) := by
  unfold enc
  by_cases h1 : ok C = true
  · rw [if_pos h1, if_neg (fun h2 => h ⟨h1, h2⟩)]
    exact ⟨1, by decide, rfl⟩
  · rw [if_neg h1]
    exact ⟨14, by decide, rfl⟩
theorem enc_yes {C : Code} (h : ok C = true) (h2 : (bytes C).length ≤ 4000000) : enc C = (bytes C, 0) := by
  unfold enc
  rw [if_pos h, if_pos h2]
end Cd

set_option maxRecDepth 100000 in
set_option maxHeartbeats 8000000 in
theorem Written_no (C : Cd.Code) (b c d : Value) (w : World) (hM : CodeM w b c d C) (hL : C.lens) (e : Nat) (he0 : e ≠ 0) (he : Cd.enc C = ([], e)) :
    Calls Tryd.prog 4 #[codeV C b c d] w fun e w' => e = .returned (.bool true) ∧ Ch (fun _ => False) w w' := by
  have HM := hid hM
  obtain ⟨⟨ao, co, rfl, hco, hx1⟩, ⟨ah, ch, rfl, hch, hx2⟩, ⟨af, cf, rfl, hcf, hx3⟩⟩ := hM
  clear hx1 hx2 hx3
  have HI := hid (fun (W : World) => cencode_any ⟨[105], [], [], []⟩ (.slice none 0 0) (.slice none 0 0) (.slice none 0 0) W (code_nil W) ⟨by simp, by simp, by simp, by simp, by simp⟩)
  have HP := hid (fun (W : World) (hb : Below w.heap.size w W) => cencode_any C _ _ _ W (HM.out.keep hb) hL)
  unfold codeVp encP at HP HI
  rw [Cd.enc_i] at HI
  rw [he] at HP
  unfold codeV
  have he1 : ¬ ((e : Int) = 0) := by omega
  have hB0 := hid ((Below.refl w.heap.size w).alloc (Nat.le_refl _) (.cells #[.string ⟨C.shape.toArray⟩, .slice ao C.ops.length co, .slice ah C.hans.length ch, .slice af C.funs.length cf] 26))
  have hx3 : ((ByteArray.mk #[69, 70, 49, 0, 1, 105, 0, 0, 0, 0, 0]).extract 0 3).toList = [69, 70, 49] := by decide +kernel
  go_enter Tryd.func4, Tryd.ntmps4
  go_wp2_with (first
    | (go_at_call_of 8 (Value.agg #[.string ⟨#[105]⟩, .slice none 0 0, .slice none 0 0, .slice none 0 0]); refine (HI.out _).mono ?_; clear HI; rintro en w1 ⟨rfl, h1⟩
       have q0 := kc h1 (show (w.alloc (.cells #[.string ⟨C.shape.toArray⟩, .slice ao C.ops.length co, .slice ah C.hans.length ch, .slice af C.funs.length cf] 26)).cell? ⟨w.heap.size, 0, none⟩ = some (.string ⟨C.shape.toArray⟩) by simp)
       have q1 := kc h1 (show (w.alloc (.cells #[.string ⟨C.shape.toArray⟩, .slice ao C.ops.length co, .slice ah C.hans.length ch, .slice af C.funs.length cf] 26)).cell? ⟨w.heap.size, 1, none⟩ = some (.slice ao C.ops.length co) by simp)
       have q2 := kc h1 (show (w.alloc (.cells #[.string ⟨C.shape.toArray⟩, .slice ao C.ops.length co, .slice ah C.hans.length ch, .slice af C.funs.length cf] 26)).cell? ⟨w.heap.size, 2, none⟩ = some (.slice ah C.hans.length ch) by simp)
       have q3 := kc h1 (show (w.alloc (.cells #[.string ⟨C.shape.toArray⟩, .slice ao C.ops.length co, .slice ah C.hans.length ch, .slice af C.funs.length cf] 26)).cell? ⟨w.heap.size, 3, none⟩ = some (.slice af C.funs.length cf) by simp)
       have hB1 := hid (hB0.out.trans (h1.mono (by simp)))
       clear h1 hB0)
    | (go_at_call 8; refine (HP.out _ hB1.out).mono ?_; clear HP; rintro en w2 ⟨rfl, h2⟩
       have hB2 := hid (hB1.out.trans (h2.mono hB1.out.size))
       clear h2)
    | fail)
  go_ret
  exact ⟨rfl, below_ch hB2.out⟩
set_option maxRecDepth 100000 in
set_option maxHeartbeats 8000000 in
theorem Written_yes (C : Cd.Code) (b c d : Value) (w : World) (hg0 : w.cell? ⟨0, 0, none⟩ = some (.iface 120 (.agg #[.pointer (some ⟨1, 41, none⟩)]))) (hM : CodeM w b c d C) (hL : C.lens) (s : List UInt8) (hls : s.length ≤ 4000000) (he : Cd.enc C = (s, 0)) (hd : Cd.dec s = (C, 0, 0)) (hsm : C.small) :
    Calls Tryd.prog 4 #[codeV C b c d] w fun e w' => e = .returned (.bool true) ∧ Ch (fun _ => False) w w' := by
  have HM := hid hM
  obtain ⟨⟨ao, co, rfl, hco, hx1⟩, ⟨ah, ch, rfl, hch, hx2⟩, ⟨af, cf, rfl, hcf, hx3⟩⟩ := hM
  clear hx1 hx2 hx3
  have HI := hid (fun (W : World) => cencode_any ⟨[105], [], [], []⟩ (.slice none 0 0) (.slice none 0 0) (.slice none 0 0) W (code_nil W) ⟨by simp, by simp, by simp, by simp, by simp⟩)
  have HP := hid (fun (W : World) (hb : Below w.heap.size w W) => cencode_any C _ _ _ W (HM.out.keep hb) hL)
  have HD := hid (fun (W : World) (hb : Below w.heap.size w W) => (cdecode_any W (kc hb hg0) s).mono (fun e w' h => h.open))
  unfold codeVp encP at HP HI
  rw [Cd.enc_i] at HI
  rw [he] at HP
  rw [hd] at HD
  unfold codeV
  clear hd he hg0
  have hsz := size_mk s
  have hl3 : (s.length : Int) ≤ 4000000 := by omega
  have hB0 := hid ((Below.refl w.heap.size w).alloc (Nat.le_refl _) (.cells #[.string ⟨C.shape.toArray⟩, .slice ao C.ops.length co, .slice ah C.hans.length ch, .slice af C.funs.length cf] 26))
  have HK := hid (blk_new (w := w) (o := .cells #[.string ⟨C.shape.toArray⟩, .slice ao C.ops.length co, .slice ah C.hans.length ch, .slice af C.funs.length cf] 26))
  have hx3 : ((ByteArray.mk #[69, 70, 49, 0, 1, 105, 0, 0, 0, 0, 0]).extract 0 3).toList = [69, 70, 49] := by decide +kernel
  go_enter Tryd.func4, Tryd.ntmps4
  go_upto_region 8 with (first
    | (go_at_call_of 8 (Value.agg #[.string ⟨#[105]⟩, .slice none 0 0, .slice none 0 0, .slice none 0 0]); refine (HI.out _).mono ?_; clear HI; rintro en w1 ⟨rfl, h1⟩
       have q0 := kc h1 (show (w.alloc (.cells #[.string ⟨C.shape.toArray⟩, .slice ao C.ops.length co, .slice ah C.hans.length ch, .slice af C.funs.length cf] 26)).cell? ⟨w.heap.size, 0, none⟩ = some (.string ⟨C.shape.toArray⟩) by simp)
       have q1 := kc h1 (show (w.alloc (.cells #[.string ⟨C.shape.toArray⟩, .slice ao C.ops.length co, .slice ah C.hans.length ch, .slice af C.funs.length cf] 26)).cell? ⟨w.heap.size, 1, none⟩ = some (.slice ao C.ops.length co) by simp)
       have q2 := kc h1 (show (w.alloc (.cells #[.string ⟨C.shape.toArray⟩, .slice ao C.ops.length co, .slice ah C.hans.length ch, .slice af C.funs.length cf] 26)).cell? ⟨w.heap.size, 2, none⟩ = some (.slice ah C.hans.length ch) by simp)
       have q3 := kc h1 (show (w.alloc (.cells #[.string ⟨C.shape.toArray⟩, .slice ao C.ops.length co, .slice ah C.hans.length ch, .slice af C.funs.length cf] 26)).cell? ⟨w.heap.size, 3, none⟩ = some (.slice af C.funs.length cf) by simp)
       have hB1 := hid (hB0.out.trans (h1.mono (by simp)))
       replace HK := hid ((h1.block _ (by simp)).trans HK.out)
       clear h1 hB0)
    | (go_at_call 8; refine (HP.out _ hB1.out).mono ?_; clear HP; rintro en w2 ⟨rfl, h2⟩
       have hB2 := hid (hB1.out.trans (h2.mono hB1.out.size))
       replace HK := hid ((h2.block _ (lt_of_blk HK.out)).trans HK.out)
       clear h2 q0 q1 q2 q3 hB1)
    | (go_at_call 5; refine (HD.out _ hB2.out).mono ?_; clear HD; rintro en w3 ⟨bo, do_, bh, dh, bf, df, rfl, hM2, hC2⟩
       replace HK := hid ((hC2.out.same _ (lt_of_blk HK.out) (fun h => h)).trans HK.out))
    | fail)
  have FA := blk_alloc (x := (.cells #[.int .i64 0, .int .i64 0] 29)) (blk_alloc (x := (.cells #[.string ⟨C.shape.toArray⟩, .slice bo C.ops.length do_, .slice bh C.hans.length dh, .slice bf C.funs.length df] 26)) HK.out)
  have FC := blk_alloc (x := (.cells #[.int .i64 0, .int .i64 0] 29)) (blk_new (w := w3) (o := (.cells #[.string ⟨C.shape.toArray⟩, .slice bo C.ops.length do_, .slice bh C.hans.length dh, .slice bf C.funs.length df] 26)))
  have FD := blk_new2 (w := w3) (x := (.cells #[.string ⟨C.shape.toArray⟩, .slice bo C.ops.length do_, .slice bh C.hans.length dh, .slice bf C.funs.length df] 26)) (o := (.cells #[.int .i64 0, .int .i64 0] 29))
  have hC3 := ((chT (below_ch hB2.out) hC2.out).al (.cells #[.string ⟨C.shape.toArray⟩, .slice bo C.ops.length do_, .slice bh C.hans.length dh, .slice bf C.funs.length df] 26)).al (.cells #[.int .i64 0, .int .i64 0] 29)
  have hN2 := hM2.out.keepC (((Ch.refl (fun _ => False) w3).al (.cells #[.string ⟨C.shape.toArray⟩, .slice bo C.ops.length do_, .slice bh C.hans.length dh, .slice bf C.funs.length df] 26)).al (.cells #[.int .i64 0, .int .i64 0] 29))
  have hN1 := HM.out.keepC hC3
  clear hM2 hC2 hB2 HK
  generalize ((w3.alloc (.cells #[.string ⟨C.shape.toArray⟩, .slice bo C.ops.length do_, .slice bh C.hans.length dh, .slice bf C.funs.length df] 26)).alloc (.cells #[.int .i64 0, .int .i64 0] 29)) = W at FA FC FD hC3 hN1 hN2 ⊢
  have q0 : W.cell? ⟨w.heap.size, 0, none⟩ = some (.string ⟨C.shape.toArray⟩) := by simp [World.cell?, FA]
  have q1 : W.cell? ⟨w.heap.size, 1, none⟩ = some (.slice ao C.ops.length co) := by simp [World.cell?, FA]
  have q2 : W.cell? ⟨w.heap.size, 2, none⟩ = some (.slice ah C.hans.length ch) := by simp [World.cell?, FA]
  have q3 : W.cell? ⟨w.heap.size, 3, none⟩ = some (.slice af C.funs.length cf) := by simp [World.cell?, FA]
  have r0 : W.cell? ⟨w3.heap.size, 0, none⟩ = some (.string ⟨C.shape.toArray⟩) := by simp [World.cell?, FC]
  have r1 : W.cell? ⟨w3.heap.size, 1, none⟩ = some (.slice bo C.ops.length do_) := by simp [World.cell?, FC]
  have r2 : W.cell? ⟨w3.heap.size, 2, none⟩ = some (.slice bh C.hans.length dh) := by simp [World.cell?, FC]
  have r3 : W.cell? ⟨w3.heap.size, 3, none⟩ = some (.slice bf C.funs.length df) := by simp [World.cell?, FC]
  have r4 : W.cell? ⟨w3.heap.size + 1, 0, none⟩ = some (.int .i64 0) := by simp [World.cell?, FD]
  have HS := same_any C C _ _ _ _ _ _ W hN1 hN2 hsm
  unfold codeV at HS
  simp only [decide_true] at HS
  have HW := hid hC3
  clear FA FC FD hN1 hN2 hC3 hsm
  go_wp2_with (go_at_call 7; refine HS.mono ?_; clear HS; rintro e w4 ⟨rfl, h4⟩; replace h4 := hid h4)
  go_ret
  exact ⟨rfl, chT HW.out (below_ch h4.out)⟩
theorem Written_any (C : Cd.Code) (b c d : Value) (w : World) (hg0 : w.cell? ⟨0, 0, none⟩ = some (.iface 120 (.agg #[.pointer (some ⟨1, 41, none⟩)]))) (hM : CodeM w b c d C) (hL : C.lens) (hR : C.inR) :
    Calls Tryd.prog 4 #[codeV C b c d] w fun e w' => e = .returned (.bool true) ∧ Ch (fun _ => False) w w' := by
  by_cases h : Cd.ok C = true ∧ (Cd.bytes C).length ≤ 4000000
  · exact Written_yes C b c d w hg0 hM hL (Cd.bytes C) h.2 (Cd.enc_yes h.1 h.2) (Cd.dec_bytes h.1 h.2 (fun f hf x hx => ((hR.2 f hf).2.2 x hx).2.2.2)) (Cd.ok_small2 h.1)
  · obtain ⟨e, h1, h2⟩ := Cd.enc_no h
    exact Written_no C b c d w hM hL e h1 h2
end Go.Proofs.YticmoofjjikefaaDoor
