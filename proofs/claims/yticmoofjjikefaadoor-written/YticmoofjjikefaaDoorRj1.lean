/-
  Decodes: what is read is small; the statement's own walk.
-/
import Derived.Test.YticmoofjjikefaaDoorMRi
import Derived.Test.YticmoofjjikefaaDoorCk
set_option linter.unusedVariables false
set_option linter.unusedSimpArgs false
namespace Go.Proofs.YticmoofjjikefaaDoor
open Go.RowKit Go.Lib

namespace Cd
theorem opsL_len (s : List UInt8) (n : Nat) (r : Rd) : (Rd.opsL s n r).1.length ≤ n := by
  induction n generalizing r with
  | zero => simp [Rd.opsL]
  | succ n ih =>
    unfold Rd.opsL
    split
    · simp only [List.length_cons]
      exact Nat.succ_le_succ (ih _)
    · simp
theorem intsL_len (s : List UInt8) (n : Nat) (r : Rd) : (Rd.intsL s n r).1.length ≤ n := by
  induction n generalizing r with
  | zero => simp [Rd.intsL]
  | succ n ih =>
    unfold Rd.intsL
    split
    · simp only [List.length_cons]
      exact Nat.succ_le_succ (ih _)
    · simp
theorem hansL_len (s : List UInt8) (n : Nat) (r : Rd) : (Rd.hansL s n r).1.length ≤ n ∧ ∀ h ∈ (Rd.hansL s n r).1, h.ops.length ≤ 65535 := by
  induction n generalizing r with
  | zero => simp [Rd.hansL]
  | succ n ih =>
    unfold Rd.hansL
    split
    · obtain ⟨h1, h2⟩ := ih (Rd.han s r).2
      refine ⟨by simp only [List.length_cons]; exact Nat.succ_le_succ h1, fun h hh => ?_⟩
      rcases List.mem_cons.1 hh with e | e
      · subst e
        have a := intsL_len s ((r.flag s).2.num s 1).1 ((r.flag s).2.num s 1).2
        have b := num_one_lt s (r.flag s).2
        unfold Rd.han
        dsimp only
        omega
      · exact h2 h e
    · simp
theorem insL_len (s : List UInt8) (n : Nat) (r : Rd) : (Rd.insL s n r).1.length ≤ n := by
  induction n generalizing r with
  | zero => simp [Rd.insL]
  | succ n ih =>
    unfold Rd.insL
    split
    · simp only [List.length_cons]
      exact Nat.succ_le_succ (ih _)
    · simp
theorem funsL_len (s : List UInt8) (n : Nat) (r : Rd) : (Rd.funsL s n r).1.length ≤ n ∧ ∀ h ∈ (Rd.funsL s n r).1, h.ins.length ≤ 65535 := by
  induction n generalizing r with
  | zero => simp [Rd.funsL]
  | succ n ih =>
    unfold Rd.funsL
    split
    · obtain ⟨h1, h2⟩ := ih (Rd.fn s r).2
      refine ⟨by simp only [List.length_cons]; exact Nat.succ_le_succ h1, fun h hh => ?_⟩
      rcases List.mem_cons.1 hh with e | e
      · subst e
        have a := insL_len s (((r.num s 2).2.num s 2).2.num s 2).1 (((r.num s 2).2.num s 2).2.num s 2).2
        have b := num_two_lt s ((r.num s 2).2.num s 2).2
        unfold Rd.fn
        dsimp only
        omega
      · exact h2 h e
    · simp
theorem code_small (s : List UInt8) (r : Rd) : (Rd.code s r).1.small := by
  unfold Rd.code
  dsimp only
  generalize Rd.text s (r.num s 2).1 (r.num s 2).2 = t
  have a := opsL_len s (t.2.num s 1).1 (t.2.num s 1).2
  have a' := num_one_lt s t.2
  generalize Rd.opsL s (t.2.num s 1).1 (t.2.num s 1).2 = o at a
  have b := hansL_len s (o.2.num s 2).1 (o.2.num s 2).2
  have b' := num_two_lt s o.2
  generalize Rd.hansL s (o.2.num s 2).1 (o.2.num s 2).2 = h at b
  have c := funsL_len s (h.2.num s 2).1 (h.2.num s 2).2
  have c' := num_two_lt s h.2
  generalize Rd.funsL s (h.2.num s 2).1 (h.2.num s 2).2 = f at c
  exact ⟨by dsimp only; omega, by dsimp only; omega, by dsimp only; omega, b.2, c.2⟩
theorem nil_small : (⟨[], [], [], []⟩ : Code).small := ⟨by simp, by simp, by simp, by simp, by simp⟩
theorem dec_small (s : List UInt8) : (dec s).1.small := by
  by_cases hl : 4000000 < s.length
  · have e : dec s = (⟨[], [], [], []⟩, 1, 0) := by unfold dec; rw [if_pos hl]
    rw [e]
    exact nil_small
  · obtain ⟨q, hq⟩ : ∃ q, Rd.code s (Rd.head s 3 (Rd.at_ 3)) = q := ⟨_, rfl⟩
    have e : dec s = (if q.2.fk = 0 then (q.1, 0, 0) else (⟨[], [], [], []⟩, q.2.fk, q.2.fa)) := by
      unfold dec
      rw [if_neg hl, show (⟨3, 0, 0⟩ : Rd) = Rd.at_ 3 from rfl, hq]
    have hs : q.1.small := by rw [← hq]; exact code_small s _
    rw [e]
    by_cases h0 : q.2.fk = 0
    · rw [if_pos h0]; exact hs
    · rw [if_neg h0]; exact nil_small
end Cd

theorem CodeM.keepC {w w' : World} {b c d : Value} {C : Cd.Code} (h : CodeM w b c d C) (hb : Ch (fun _ => False) w w') : CodeM w' b c d C :=
  h.keep (w' := { w' with tape := w.tape }) ⟨hb.eo.1, rfl, hb.eo.2, hb.size, fun k hk => hb.same k hk (fun h => h)⟩
theorem kcc {w w' : World} (hb : Ch (fun _ => False) w w') {g k : Nat} {v : Value} (h : w.cell? ⟨g, k, none⟩ = some v) : w'.cell? ⟨g, k, none⟩ = some v :=
  kc (w' := { w' with tape := w.tape }) ⟨hb.eo.1, rfl, hb.eo.2, hb.size, fun k hk => hb.same k hk (fun h => h)⟩ h
theorem below_ch {w w' : World} (h : Below w.heap.size w w') : Ch (fun _ => False) w w' := ⟨h.size, fun k hk _ => h.block k hk, h.os, h.output⟩
theorem chT {a b c : World} (h : Ch (fun _ => False) a b) (k : Ch (fun _ => False) b c) : Ch (fun _ => False) a c := h.trans k (fun _ h => .inl h)

theorem DecPost.open {w w' : World} {d : Cd.Code × Nat × Nat} {e : Ending} (h : DecPost w d e w') : ∃ ao co ah ch af cf, e = .returned (.tuple #[.agg #[.string ⟨d.1.shape.toArray⟩, .slice ao d.1.ops.length co, .slice ah d.1.hans.length ch, .slice af d.1.funs.length cf], .agg #[.int .i64 (d.2.1 : Nat), .int .i64 (d.2.2 : Nat)]]) ∧ Hid (CodeM w' (.slice ao d.1.ops.length co) (.slice ah d.1.hans.length ch) (.slice af d.1.funs.length cf) d.1) ∧ Hid (Ch (fun _ => False) w w') := by
  obtain ⟨vo, vh, vf, rfl, hM, hC⟩ := h
  have HM := hM
  obtain ⟨⟨ao, co, rfl, _, _⟩, ⟨ah, ch, rfl, _, _⟩, ⟨af, cf, rfl, _, _⟩⟩ := hM
  exact ⟨ao, co, ah, ch, af, cf, rfl, HM, hC⟩

theorem two_laid {w w1 w2 : World} {A1 B1 A2 B2 : Array Value} {t1 t2 : TypeId} {b c d b2 c2 d2 : Value} {C : Cd.Code} (h1 : Ch (fun _ => False) w w1) (h2 : Ch (fun _ => False) ((w1.alloc (.cells A1 t1)).alloc (.cells B1 t2)) w2) (hM1 : CodeM w1 b c d C) (hM2 : CodeM w2 b2 c2 d2 C) :
    ((w2.alloc (.cells A2 t1)).alloc (.cells B2 t2)).heap[w1.heap.size]? = some (.cells A1 t1) ∧ ((w2.alloc (.cells A2 t1)).alloc (.cells B2 t2)).heap[w1.heap.size + 1]? = some (.cells B1 t2) ∧ ((w2.alloc (.cells A2 t1)).alloc (.cells B2 t2)).heap[w2.heap.size]? = some (.cells A2 t1) ∧ ((w2.alloc (.cells A2 t1)).alloc (.cells B2 t2)).heap[w2.heap.size + 1]? = some (.cells B2 t2) ∧
      CodeM ((w2.alloc (.cells A2 t1)).alloc (.cells B2 t2)) b c d C ∧ CodeM ((w2.alloc (.cells A2 t1)).alloc (.cells B2 t2)) b2 c2 d2 C ∧ Ch (fun _ => False) w ((w2.alloc (.cells A2 t1)).alloc (.cells B2 t2)) := by
  have z1 : (w1.alloc (.cells A1 t1)).heap.size = w1.heap.size + 1 := by simp
  have z2 : (w2.alloc (.cells A2 t1)).heap.size = w2.heap.size + 1 := by simp
  have g1 : ((w1.alloc (.cells A1 t1)).alloc (.cells B1 t2)).heap[w1.heap.size]? = some (.cells A1 t1) := blk_alloc (heap_alloc_new _ _)
  have g2 : ((w1.alloc (.cells A1 t1)).alloc (.cells B1 t2)).heap[w1.heap.size + 1]? = some (.cells B1 t2) := by rw [← z1]; exact heap_alloc_new _ _
  have hk : Ch (fun _ => False) w2 ((w2.alloc (.cells A2 t1)).alloc (.cells B2 t2)) := ((Ch.refl _ w2).al _).al _
  refine ⟨blk_alloc (blk_alloc ((h2.same _ (by simp; omega) (fun h => h)).trans g1)), blk_alloc (blk_alloc ((h2.same _ (by simp) (fun h => h)).trans g2)), blk_alloc (heap_alloc_new _ _), by rw [← z2]; exact heap_alloc_new _ _, ?_, hM2.keepC hk, ?_⟩
  · exact hM1.keepC (chT (chT (((Ch.refl _ w1).al _).al _) h2) hk)
  · exact chT (chT ((h1.al _).al _) h2) hk

set_option maxRecDepth 100000 in
set_option maxHeartbeats 8000000 in
theorem Decodes_any (s : List UInt8) (w : World) (hg0 : w.cell? ⟨0, 0, none⟩ = some (.iface 120 (.agg #[.pointer (some ⟨1, 41, none⟩)]))) :
    Calls Tryd.prog 3 #[.string ⟨s.toArray⟩] w fun e w' => e = .returned (.bool true) ∧ Ch (fun _ => False) w w' := by
  have HP := (cdecode_any w hg0 s).mono (fun e w' h => h.open)
  have HR := hid (fun W : World => (rdecode_any W s).mono (fun e w' h => h.open))
  have hsm := Cd.dec_small s
  clear hg0
  generalize Cd.dec s = D at HP HR hsm
  obtain ⟨C, k, a⟩ := D
  dsimp only at HP HR hsm
  replace hsm := hid hsm
  go_enter Tryd.func3, Tryd.ntmps3
  go_upto_region 3 with (first
    | (go_at_call 5; refine HP.mono ?_; clear HP; rintro e w1 ⟨ao, co, ah, ch, af, cf, rfl, hM1, hC1⟩)
    | (go_at_call 6; refine (HR.out _).mono ?_; clear HR; rintro e w2 ⟨bo, do_, bh, dh, bf, df, rfl, hM2, hC2⟩)
    | fail)
  have F := two_laid (A2 := #[.string ⟨C.shape.toArray⟩, .slice bo C.ops.length do_, .slice bh C.hans.length dh, .slice bf C.funs.length df]) (B2 := #[.int .i64 (k : Nat), .int .i64 (a : Nat)]) (hC1.out) (hC2.out) hM1.out hM2.out
  clear hC1 hC2 hM1 hM2
  generalize ((w2.alloc (.cells #[.string ⟨C.shape.toArray⟩, .slice bo C.ops.length do_, .slice bh C.hans.length dh, .slice bf C.funs.length df] 26)).alloc (.cells #[.int .i64 (k : Nat), .int .i64 (a : Nat)] 29)) = W at F ⊢
  obtain ⟨FA, FB, FC, FD, hN1, hN2, hW⟩ := F
  have q0 : W.cell? ⟨w1.heap.size, 0, none⟩ = some (.string ⟨C.shape.toArray⟩) := by simp [World.cell?, FA]
  have q1 : W.cell? ⟨w1.heap.size, 1, none⟩ = some (.slice ao C.ops.length co) := by simp [World.cell?, FA]
  have q2 : W.cell? ⟨w1.heap.size, 2, none⟩ = some (.slice ah C.hans.length ch) := by simp [World.cell?, FA]
  have q3 : W.cell? ⟨w1.heap.size, 3, none⟩ = some (.slice af C.funs.length cf) := by simp [World.cell?, FA]
  have q4 : W.cell? ⟨w1.heap.size + 1, 0, none⟩ = some (.int .i64 (k : Nat)) := by simp [World.cell?, FB]
  have q5 : W.cell? ⟨w1.heap.size + 1, 1, none⟩ = some (.int .i64 (a : Nat)) := by simp [World.cell?, FB]
  have r0 : W.cell? ⟨w2.heap.size, 0, none⟩ = some (.string ⟨C.shape.toArray⟩) := by simp [World.cell?, FC]
  have r1 : W.cell? ⟨w2.heap.size, 1, none⟩ = some (.slice bo C.ops.length do_) := by simp [World.cell?, FC]
  have r2 : W.cell? ⟨w2.heap.size, 2, none⟩ = some (.slice bh C.hans.length dh) := by simp [World.cell?, FC]
  have r3 : W.cell? ⟨w2.heap.size, 3, none⟩ = some (.slice bf C.funs.length df) := by simp [World.cell?, FC]
  have r4 : W.cell? ⟨w2.heap.size + 1, 0, none⟩ = some (.int .i64 (k : Nat)) := by simp [World.cell?, FD]
  have r5 : W.cell? ⟨w2.heap.size + 1, 1, none⟩ = some (.int .i64 (a : Nat)) := by simp [World.cell?, FD]
  have HS := same_any C C _ _ _ _ _ _ W hN1 hN2 hsm.out
  unfold codeV at HS
  simp only [decide_true] at HS
  replace hW := hid hW
  clear FA FB FC FD hN1 hN2
  go_wp2_with (go_at_call 7; refine HS.mono ?_; clear HS; rintro e w3 ⟨rfl, h3⟩; replace h3 := hid h3)
  go_ret
  exact ⟨rfl, chT hW.out (below_ch h3.out)⟩
end Go.Proofs.YticmoofjjikefaaDoor
