/-
  The program's Load: what it answers, as a plain function; its reading and checking of a code.
  The program's Load without a fault.
-/
import Derived.Test.YtpjbfdpblgjmfaaGreatDoorMRi
import Derived.Test.YtpjbfdpblgjmfaaGreatDoorMKh
import Derived.Test.YtpjbfdpblgjmfaaGreatDoorMEm
import Derived.Test.YtpjbfdpblgjmfaaGreatDoorMZp
set_option linter.unusedVariables false
set_option linter.unusedSimpArgs false
namespace Go.Proofs.YtpjbfdpblgjmfaaGreatDoor
open Go.RowKit Go.Lib

theorem CodeM.keepC {w w' : World} {b c d : Value} {C : Cd.Code} (h : CodeM w b c d C) (hb : Ch (fun _ => False) w w') : CodeM w' b c d C :=
  h.keep (w' := { w' with tape := w.tape }) ⟨hb.eo.1, rfl, hb.eo.2, hb.size, fun k hk => hb.same k hk (fun h => h)⟩
theorem kcc {w w' : World} (hb : Ch (fun _ => False) w w') {g k : Nat} {v : Value} (h : w.cell? ⟨g, k, none⟩ = some v) : w'.cell? ⟨g, k, none⟩ = some v :=
  kc (w' := { w' with tape := w.tape }) ⟨hb.eo.1, rfl, hb.eo.2, hb.size, fun k hk => hb.same k hk (fun h => h)⟩ h
theorem below_ch {w w' : World} (h : Below w.heap.size w w') : Ch (fun _ => False) w w' := ⟨h.size, fun k hk _ => h.block k hk, h.os, h.output⟩
theorem chT {a b c : World} (h : Ch (fun _ => False) a b) (k : Ch (fun _ => False) b c) : Ch (fun _ => False) a c := h.trans k (fun _ h => .inl h)

theorem DecPost.open {w w' : World} {d : Cd.Code × Nat × Nat} {e : Ending} (h : DecPost w d e w') : ∃ ao co ah ch af cf, e = .returned (.tuple #[.agg #[.string ⟨d.1.shape.toArray⟩, .slice ao d.1.ops.length co, .slice ah d.1.hans.length ch, .slice af d.1.funs.length cf], .agg #[.int .i64 (d.2.1 : Nat), .int .i64 (d.2.2 : Nat)]]) ∧ Hid (CodeM w' (.slice ao d.1.ops.length co) (.slice ah d.1.hans.length ch) (.slice af d.1.funs.length cf) d.1) ∧ Hid (Ch (fun _ => False) w w') := by
  obtain ⟨vo, vh, vf, rfl, hM, hC⟩ := h
  have HM := hM
  obtain ⟨⟨ao, co, rfl, _, _⟩, ⟨ah, ch, rfl, _, _⟩, ⟨af, cf, rfl, _, _⟩⟩ := hM
  exact ⟨ao, co, ah, ch, af, cf, rfl, HM, hC⟩


theorem CodeM.keepH {w X : World} {b c d : Value} {C : Cd.Code} (h : CodeM w b c d C) (hX : ∀ k, k < w.heap.size → X.heap[k]? = w.heap[k]?) (hs : w.heap.size ≤ X.heap.size) : CodeM X b c d C :=
  h.keep (w' := { X with tape := w.tape, os := w.os, output := w.output }) ⟨rfl, rfl, rfl, hs, hX⟩
/-- The fault of Load: of reading, of checking, of the heap's cells. -/
def ldF (s : List UInt8) (cells : Int) : Int × Nat :=
  if (Cd.dec s).2.1 ≠ 0 then ((Cd.dec s).2.1, (Cd.dec s).2.2)
  else if (Cd.chk (Cd.dec s).1).1 ≠ 0 then Cd.chk (Cd.dec s).1
  else if cells < 0 ∨ 1000000 < cells then (11, 0) else (0, 0)
/-- Load with a fault; without one. -/
def LoadNo (s : List UInt8) (cells : Int) (w : World) (e : Ending) (w' : World) : Prop := e = .returned (.tuple #[.pointer none, .agg #[.int .i64 (ldF s cells).1, .int .i64 ((ldF s cells).2 : Nat)]]) ∧ Ch (fun _ => False) w w'
def LoadYes (w : World) (e : Ending) (w' : World) : Prop := ∃ mb hb sb fb cb, e = .returned (.tuple #[.pointer (some ⟨mb, 0, none⟩), .agg #[.int .i64 0, .int .i64 0]]) ∧ MF w' mb hb sb fb cb ∧ Ch (fun _ => False) w w' ∧ w.heap.size ≤ hb

/-- The world behind the reading: the answer's fault, the code, the fault that was met. -/
structure LdW (w W : World) (w1 : Nat) (C : Cd.Code) (ao : Option Addr) (co : Nat) (ah : Option Addr) (ch : Nat) (af : Option Addr) (cf : Nat) (k a : Int) : Prop where
  r : W.heap[w.heap.size]? = some (.cells #[.int .i64 0, .int .i64 0] 25 (0, 0))
  c : W.heap[w1]? = some (.cells #[.string ⟨C.shape.toArray⟩, .slice ao C.ops.length co, .slice ah C.hans.length ch, .slice af C.funs.length cf] 38 (0, 0))
  f : W.heap[w1 + 1]? = some (.cells #[.int .i64 k, .int .i64 a] 25 (0, 0))
  m : ∀ X : World, (∀ k, k < w1 → X.heap[k]? = W.heap[k]?) → w1 ≤ X.heap.size → CodeM X (.slice ao C.ops.length co) (.slice ah C.hans.length ch) (.slice af C.funs.length cf) C
  ch : Ch (fun _ => False) w W
  lt : w.heap.size < w1
theorem ldW_of {w w1 : World} {C : Cd.Code} {ao : Option Addr} {co : Nat} {ah : Option Addr} {ch : Nat} {af : Option Addr} {cf : Nat} {k a : Int} (hM : CodeM w1 (.slice ao C.ops.length co) (.slice ah C.hans.length ch) (.slice af C.funs.length cf) C) (hc : Ch (fun _ => False) (w.alloc (.cells #[.int .i64 0, .int .i64 0] 25)) w1) :
    LdW w ((w1.alloc (.cells #[.string ⟨C.shape.toArray⟩, .slice ao C.ops.length co, .slice ah C.hans.length ch, .slice af C.funs.length cf] 38)).alloc (.cells #[.int .i64 k, .int .i64 a] 25)) w1.heap.size C ao co ah ch af cf k a := by
  have hz : w.heap.size < w1.heap.size := by have := hc.size; simp at this; omega
  refine ⟨blk_alloc (blk_alloc ((hc.same _ (by simp) (fun h => h)).trans (World.alloc_heap_new _ _))), blk_alloc (World.alloc_heap_new _ _), ?_, fun X hX hs => hM.keepH (fun k hk => (hX k hk).trans ((Below.heap_alloc _ _ _ (by simp; omega)).trans (Below.heap_alloc _ _ _ hk))) hs, (chT ((Ch.refl _ w).al _) hc).al _ |>.al _, hz⟩
  have := World.alloc_heap_new (w1.alloc (.cells #[.string ⟨C.shape.toArray⟩, .slice ao C.ops.length co, .slice ah C.hans.length ch, .slice af C.funs.length cf] 38)) (.cells #[.int .i64 k, .int .i64 a] 25)
  rwa [World.size_alloc] at this
theorem two_cells {W : World} {b : Nat} {T : TypeId} {a0 a1 : Value} (hb : W.heap[b]? = some (.cells #[a0, a1] T (0, 0))) : W.cell? ⟨b, 0, none⟩ = some a0 ∧ W.cell? ⟨b, 1, none⟩ = some a1 ∧ ∀ i, W.frozen? ⟨b, i, none⟩ = false := by
  refine ⟨?_, ?_, fun i => ?_⟩ <;> simp [World.cell?, World.frozen?, hb]
theorem four_cells {W : World} {b : Nat} {T : TypeId} {a0 a1 a2 a3 : Value} (hb : W.heap[b]? = some (.cells #[a0, a1, a2, a3] T (0, 0))) : W.cell? ⟨b, 0, none⟩ = some a0 ∧ W.cell? ⟨b, 1, none⟩ = some a1 ∧ W.cell? ⟨b, 2, none⟩ = some a2 ∧ W.cell? ⟨b, 3, none⟩ = some a3 ∧ ∀ i, W.frozen? ⟨b, i, none⟩ = false := by
  refine ⟨?_, ?_, ?_, ?_, fun i => ?_⟩ <;> simp [World.cell?, World.frozen?, hb]
theorem blk_drL {w : World} {o : Nat} {x : Option Obj} (h : w.heap[o]? = x) : w.drew.heap[o]? = x := h
theorem no_fin {w V : World} {a' : Act} {F : Func} {s : List UInt8} {cells k : Int} {a : Nat} (hF : F.results = #[.tmp 4, .cell 5 25]) (hd : a'.defers = []) (h4 : a'.tmps[4]? = some (.pointer none)) (h5 : a'.tmps[5]? = some (.pointer (some ⟨w.heap.size, 0, none⟩)))
    (hB : V.heap[w.heap.size]? = some (.cells #[.int .i64 k, .int .i64 (a : Nat)] 25 (0, 0))) (he : ldF s cells = (k, a)) (hc : Ch (fun _ => False) w V) : bodyPost Tryz.prog F (fun e w' => LoadNo s cells w e w') .ret a' V := by
  obtain ⟨c0, c1, _⟩ := two_cells hB
  refine bodyPost_ret (v := .tuple #[.pointer none, .agg #[.int .i64 k, .int .i64 (a : Nat)]]) ?_ hd ⟨by rw [he], hc⟩
  simp [results, hF, go_sem, h4, h5, c0, c1]

set_option maxRecDepth 100000 in
set_option maxHeartbeats 8000000 in
theorem cload_dec (s : List UInt8) (cells : Int) (w : World) (hg0 : w.cell? ⟨0, 0, none⟩ = some (.iface 214 (.agg #[.pointer (some ⟨1, 74, none⟩)]))) (hk : (Cd.dec s).2.1 ≠ 0) :
    Calls Tryz.prog 4 #[.string ⟨s.toArray⟩, .int .i64 cells] w fun e w' => LoadNo s cells w e w' := by
  have hL : ldF s cells = (((Cd.dec s).2.1 : Int), (Cd.dec s).2.2) := by unfold ldF; rw [if_pos hk]
  have HL := hid hL
  clear hL
  have HP := (cdecode_any (w.alloc (.cells #[.int .i64 0, .int .i64 0] 25)) (kcc ((Ch.refl _ w).al _) hg0) s).mono (fun e w' h => h.open)
  clear hg0
  generalize Cd.dec s = D at HP HL hk
  obtain ⟨C, k, a⟩ := D
  dsimp only at HP HL hk
  have hk1 : ¬ ((k : Int) = 0) := by omega
  go_enter Tryz.func4, Tryz.ntmps4
  go_upto_region 2 with (go_at_call 8; refine HP.mono ?_; clear HP; rintro e w1 ⟨ao, co, ah, ch, af, cf, rfl, hM1, hC1⟩)
  have D := ldW_of (k := (k : Nat)) (a := (a : Nat)) hM1.out hC1.out
  clear hM1 hC1
  generalize ((w1.alloc (.cells #[.string ⟨C.shape.toArray⟩, .slice ao C.ops.length co, .slice ah C.hans.length ch, .slice af C.funs.length cf] 38)).alloc (.cells #[.int .i64 (k : Nat), .int .i64 (a : Nat)] 25)) = W at D ⊢
  obtain ⟨f0, f1, ff⟩ := two_cells D.f
  obtain ⟨r0, r1, rf⟩ := two_cells D.r
  have hlt := D.lt
  replace D := hid D
  go_wp2
  go_region
  all_goals go_wp2
  all_goals exact no_fin (F := Tryz.f4) rfl rfl rfl rfl (blk_drL (blk_set (blk_set D.out.r))) HL.out ((chn (chn D.out.ch (by simp)) (by simp)).dr)

/-- The world behind the checking: the fault that was met is the check's. -/
theorem LdW.step {w W V : World} {w1 : Nat} {C : Cd.Code} {ao : Option Addr} {co : Nat} {ah : Option Addr} {ch : Nat} {af : Option Addr} {cf : Nat} {k a k2 a2 : Int} (h : LdW w W w1 C ao co ah ch af cf k a) (hb : Below W.heap.size W V) :
    LdW w ((V.setCell ⟨w1 + 1, 0, none⟩ (.int .i64 k2)).setCell ⟨w1 + 1, 1, none⟩ (.int .i64 a2)) w1 C ao co ah ch af cf k2 a2 := by
  have hlt := h.lt
  have e : ∀ k o, W.heap[k]? = some o → V.heap[k]? = some o := fun k o ho => (hb.block k (Array.getElem?_eq_some_iff.1 ho).1).trans ho
  have hc : Ch (fun k => k = w1 + 1) V ((V.setCell ⟨w1 + 1, 0, none⟩ (.int .i64 k2)).setCell ⟨w1 + 1, 1, none⟩ (.int .i64 a2)) := ((Ch.refl (fun k => k = w1 + 1) V).set (a := ⟨w1 + 1, 0, none⟩) rfl _).set (a := ⟨w1 + 1, 1, none⟩) rfl _
  refine ⟨blk_other (blk_other (e _ _ h.r) (by simp; omega)) (by simp; omega), blk_other (blk_other (e _ _ h.c) (by simp)) (by simp), blk_set (blk_set (e _ _ h.f)), fun X hX hs => h.m X (fun k hk => (hX k hk).trans ((hc.same k ?_ (by omega)).trans (hb.block k ?_))) hs, (chT h.ch (below_ch hb)).trans hc (fun k hk => .inr (by omega)), hlt⟩
  · have := hb.size
    have := (Array.getElem?_eq_some_iff.1 h.c).1
    omega
  · have := (Array.getElem?_eq_some_iff.1 h.c).1
    omega
theorem LdW.code {w W : World} {w1 : Nat} {C : Cd.Code} {ao : Option Addr} {co : Nat} {ah : Option Addr} {ch : Nat} {af : Option Addr} {cf : Nat} {k a : Int} (h : LdW w W w1 C ao co ah ch af cf k a) : CodeM W (.slice ao C.ops.length co) (.slice ah C.hans.length ch) (.slice af C.funs.length cf) C :=
  h.m W (fun _ _ => rfl) (Nat.le_of_lt (Array.getElem?_eq_some_iff.1 h.c).1)

set_option maxRecDepth 100000 in
set_option maxHeartbeats 8000000 in
theorem cload_chk (s : List UInt8) (cells : Int) (w : World) (hg0 : w.cell? ⟨0, 0, none⟩ = some (.iface 214 (.agg #[.pointer (some ⟨1, 74, none⟩)]))) (hk : (Cd.dec s).2.1 = 0) (hk2 : (Cd.chk (Cd.dec s).1).1 ≠ 0) :
    Calls Tryz.prog 4 #[.string ⟨s.toArray⟩, .int .i64 cells] w fun e w' => LoadNo s cells w e w' := by
  have hL : ldF s cells = Cd.chk (Cd.dec s).1 := by unfold ldF; rw [if_neg (fun h => h hk), if_pos hk2]
  have HL := hid hL
  clear hL
  have HP := (cdecode_any (w.alloc (.cells #[.int .i64 0, .int .i64 0] 25)) (kcc ((Ch.refl _ w).al _) hg0) s).mono (fun e w' h => h.open)
  have hok := Cd.dec_ok s
  clear hg0
  generalize Cd.dec s = D at HP HL hk hk2 hok
  obtain ⟨C, k, a⟩ := D
  dsimp only at HP HL hk hk2 hok
  subst hk
  have HCK := hid (fun (W : World) (b c d : Value) (hM : CodeM W b c d C) => ccheck_any C b c d W hM hok)
  unfold codeV2 ChcPost at HCK
  generalize Cd.chk C = q at HCK HL hk2
  obtain ⟨qk, qa⟩ := q
  dsimp only at HCK HL hk2
  go_enter Tryz.func4, Tryz.ntmps4
  go_upto_region 2 with (go_at_call 8; refine HP.mono ?_; clear HP; rintro e w1 ⟨ao, co, ah, ch, af, cf, rfl, hM1, hC1⟩)
  have D := ldW_of (k := (0 : Int)) (a := (a : Nat)) hM1.out hC1.out
  clear hM1 hC1
  generalize ((w1.alloc (.cells #[.string ⟨C.shape.toArray⟩, .slice ao C.ops.length co, .slice ah C.hans.length ch, .slice af C.funs.length cf] 38)).alloc (.cells #[.int .i64 0, .int .i64 (a : Nat)] 25)) = W at D ⊢
  obtain ⟨f0, f1, ff⟩ := two_cells D.f
  obtain ⟨c0, c1, c2, c3, cff⟩ := four_cells D.c
  have HC := HCK.out W _ _ _ D.code
  clear HCK
  have hlt := D.lt
  replace D := hid D
  go_upto_region 4 with (first
    | (go_at_call 9
       refine HC.mono ?_
       clear HC
       rintro e w2 ⟨rfl, hb2⟩
       have D2 := D.out.step (k2 := qk) (a2 := (qa : Nat)) hb2
       have g0 := kc hb2 f0
       have g1 := kc hb2 f1
       have gf : ∀ i, w2.frozen? ⟨w1.heap.size + 1, i, none⟩ = false := fun i => by rw [World.frozen?_of_block (a := ⟨w1.heap.size + 1, i, none⟩) (w := W) (hb2.block _ (World.block_lt_of_cell? W ⟨w1.heap.size + 1, 0, none⟩ f0))]; exact ff i
       replace D2 := hid D2
       clear hb2))
  generalize ((w2.setCell ⟨w1.heap.size + 1, 0, none⟩ (.int .i64 qk)).setCell ⟨w1.heap.size + 1, 1, none⟩ (.int .i64 (qa : Nat))) = V at D2 ⊢
  clear g0 g1 gf f0 f1 ff c0 c1 c2 c3 cff D
  obtain ⟨f0, f1, ff⟩ := two_cells D2.out.f
  obtain ⟨r0, r1, rf⟩ := two_cells D2.out.r
  go_wp2
  go_region
  all_goals go_wp2
  all_goals exact no_fin (F := Tryz.f4) rfl rfl rfl rfl (blk_drL (blk_set (blk_set D2.out.r))) HL.out ((chn (chn D2.out.ch (by simp)) (by simp)).dr)
set_option maxRecDepth 100000 in
set_option maxHeartbeats 8000000 in
theorem cload_arg (s : List UInt8) (cells : Int) (w : World) (hg0 : w.cell? ⟨0, 0, none⟩ = some (.iface 214 (.agg #[.pointer (some ⟨1, 74, none⟩)]))) (hk : (Cd.dec s).2.1 = 0) (hk2 : (Cd.chk (Cd.dec s).1).1 = 0) (hcl : cells < 0 ∨ 1000000 < cells) :
    Calls Tryz.prog 4 #[.string ⟨s.toArray⟩, .int .i64 cells] w fun e w' => LoadNo s cells w e w' := by
  have hL : ldF s cells = (11, 0) := by unfold ldF; rw [if_neg (fun h => h hk), if_neg (fun h => h hk2), if_pos hcl]
  have HN := hid (fun W : World => hnew_no W cells hcl)
  clear hcl
  have HL := hid hL
  clear hL
  have HP := (cdecode_any (w.alloc (.cells #[.int .i64 0, .int .i64 0] 25)) (kcc ((Ch.refl _ w).al _) hg0) s).mono (fun e w' h => h.open)
  have hok := Cd.dec_ok s
  clear hg0
  generalize Cd.dec s = D at HP HL hk hk2 hok
  obtain ⟨C, k, a⟩ := D
  dsimp only at HP HL hk hk2 hok
  subst hk
  have HCK := hid (fun (W : World) (b c d : Value) (hM : CodeM W b c d C) => ccheck_any C b c d W hM hok)
  unfold codeV2 ChcPost at HCK
  generalize Cd.chk C = q at HCK HL hk2
  obtain ⟨qk, qa⟩ := q
  dsimp only at HCK HL hk2
  subst hk2
  go_enter Tryz.func4, Tryz.ntmps4
  go_upto_region 2 with (go_at_call 8; refine HP.mono ?_; clear HP; rintro e w1 ⟨ao, co, ah, ch, af, cf, rfl, hM1, hC1⟩)
  have D := ldW_of (k := (0 : Int)) (a := (a : Nat)) hM1.out hC1.out
  clear hM1 hC1
  generalize ((w1.alloc (.cells #[.string ⟨C.shape.toArray⟩, .slice ao C.ops.length co, .slice ah C.hans.length ch, .slice af C.funs.length cf] 38)).alloc (.cells #[.int .i64 0, .int .i64 (a : Nat)] 25)) = W at D ⊢
  obtain ⟨f0, f1, ff⟩ := two_cells D.f
  obtain ⟨c0, c1, c2, c3, cff⟩ := four_cells D.c
  have HC := HCK.out W _ _ _ D.code
  clear HCK
  have hlt := D.lt
  replace D := hid D
  go_upto_region 4 with (first
    | (go_at_call 9
       refine HC.mono ?_
       clear HC
       rintro e w2 ⟨rfl, hb2⟩
       have D2 := D.out.step (k2 := 0) (a2 := (qa : Nat)) hb2
       have g0 := kc hb2 f0
       have g1 := kc hb2 f1
       have gf : ∀ i, w2.frozen? ⟨w1.heap.size + 1, i, none⟩ = false := fun i => by rw [World.frozen?_of_block (a := ⟨w1.heap.size + 1, i, none⟩) (w := W) (hb2.block _ (World.block_lt_of_cell? W ⟨w1.heap.size + 1, 0, none⟩ f0))]; exact ff i
       replace D2 := hid D2
       clear hb2))
  generalize ((w2.setCell ⟨w1.heap.size + 1, 0, none⟩ (.int .i64 0)).setCell ⟨w1.heap.size + 1, 1, none⟩ (.int .i64 (qa : Nat))) = V at D2 ⊢
  clear g0 g1 gf f0 f1 ff c0 c1 c2 c3 cff D
  obtain ⟨f0, f1, ff⟩ := two_cells D2.out.f
  obtain ⟨r0, r1, rf⟩ := two_cells D2.out.r
  go_wp2_with (go_at_call 10; refine (HN.out _).mono ?_; clear HN; rintro e w9 ⟨rfl, hw9⟩; obtain rfl := hw9.symm)
  exact no_fin (F := Tryz.f4) rfl rfl rfl rfl (blk_set (blk_set D2.out.r)) HL.out (chn (chn D2.out.ch (by simp)) (by simp))
end Go.Proofs.YtpjbfdpblgjmfaaGreatDoor

namespace Go.Proofs.YtpjbfdpblgjmfaaGreatDoor
open Go.RowKit Go.Lib

/-- A new stack. -/
def NewS (w : World) (e : Ending) (w' : World) : Prop := e = .returned (.pointer (some ⟨w.heap.size, 0, none⟩)) ∧ Hid (w'.heap[w.heap.size]? = some (.cells #[.slice none 0 0, .pointer none, .int .i64 0, .pointer none, .bool false, .int .i64 0] 101 (0, 0))) ∧ Hid (Ch (fun _ => False) w w')
theorem snew (w : World) : Calls Tryz.prog 11 #[] w (NewS w) := (new_any w).mono (fun e w' h => by
  obtain ⟨h1, rfl⟩ := h
  exact ⟨h1, World.alloc_heap_new _ _, (Ch.refl _ w).al _⟩)
/-- The world ahead of the first call: machine, heap, stack, and the answer's fault. -/
structure MX (w X : World) (mb hb sb : Nat) : Prop where
  m : ∃ sh vo vh vf n bare, X.heap[mb]? = some (.cells #[.string sh, vo, vh, vf, .int .i64 n, .pointer (some ⟨hb, 0, none⟩), .pointer (some ⟨sb, 0, none⟩), bare, .int .i64 0, .string ⟨#[]⟩, .string ⟨#[]⟩, .int .i64 0] 58 (0, 0))
  h : ∃ v, X.heap[hb]? = some (.cells #[v, .int .i64 0] 93 (0, 0))
  s : X.heap[sb]? = some (.cells #[.slice none 0 0, .pointer none, .int .i64 0, .pointer none, .bool false, .int .i64 0] 101 (0, 0))
  r : X.heap[w.heap.size]? = some (.cells #[.int .i64 0, .int .i64 0] 25 (0, 0))
  ch : Ch (fun _ => False) w X
  l1 : w.heap.size < hb
  l2 : hb < sb
  l3 : sb < mb
  l4 : mb < X.heap.size
  l5 : w.heap.size < sb
  l6 : w.heap.size < mb
/-- With the first call the machine is loaded; what turns the answer's fault alone leaves it so. -/
theorem mf_of {w X w6 w7 : World} {mb hb sb cb : Nat} {n : Int} (h : MX w X mb hb sb) (hc : CallAt w6 cb n) (h6 : Ch (fun _ => False) X.drew w6) (hst : StkAt w7 sb w6.heap.size cb) (h7 : Ch (fun k => k = sb) w6 w7) (hcb : X.heap.size ≤ cb) :
    (MF w7 mb hb sb w6.heap.size cb ∧ ∀ Y, Ch (fun k => k = w.heap.size) w7 Y → MF Y mb hb sb w6.heap.size cb) ∧ w7.heap[w.heap.size]? = some (.cells #[.int .i64 0, .int .i64 0] 25 (0, 0)) ∧ Ch (fun _ => False) w w7 ∧ w.heap.size ≤ hb := by
  have l1 := h.l1
  have l2 := h.l2
  have l3 := h.l3
  have l4 := h.l4
  have hcl : cb < w6.heap.size := (Array.getElem?_eq_some_iff.1 hc).1
  have z6 : X.heap.size ≤ w6.heap.size := h6.size
  have e : ∀ k, k < X.heap.size → k ≠ sb → w7.heap[k]? = X.heap[k]? := fun k hk hs => (h7.same k (by omega) hs).trans (h6.same k hk (fun h => h))
  obtain ⟨sh, vo, vh, vf, m, bare, hm⟩ := h.m
  obtain ⟨v, hh⟩ := h.h
  have hM : MF w7 mb hb sb w6.heap.size cb := ⟨⟨sh, vo, vh, vf, m, bare, (e mb l4 (by omega)).trans hm⟩, ⟨v, (e hb (by omega) (by omega)).trans hh⟩, hst, ⟨n, (h7.same cb hcl (by omega)).trans hc⟩⟩
  refine ⟨⟨hM, fun Y hY => ?_⟩, (e _ (by omega) (by omega)).trans h.r, (chT (chT h.ch (Ch.refl _ X).dr) h6).trans h7 (fun k hk => .inr (by omega)), by omega⟩
  have z7 := h7.size
  have hz : w6.heap.size < w7.heap.size := (Array.getElem?_eq_some_iff.1 hst.f).1
  obtain ⟨⟨sh, vo, vh, vf, m, bare, hm⟩, ⟨v, hh⟩, hs, ⟨n2, hcc⟩⟩ := hM
  have y : ∀ k, k < w7.heap.size → w.heap.size < k → Y.heap[k]? = w7.heap[k]? := fun k hk hl => hY.same k hk (by omega)
  exact ⟨⟨sh, vo, vh, vf, m, bare, (y mb (by omega) (by omega)).trans hm⟩, ⟨v, (y hb (by omega) (by omega)).trans hh⟩, hs.keep (y sb (by omega) (by omega)) (y _ hz (by omega)), ⟨n2, (y cb (by omega) (by omega)).trans hcc⟩⟩
theorem push_new (w : World) (sb cb : Nat) (hs : w.heap[sb]? = some (.cells #[.slice none 0 0, .pointer none, .int .i64 0, .pointer none, .bool false, .int .i64 0] 101 (0, 0))) :
    Calls Tryz.prog 13 #[.pointer (some ⟨sb, 0, none⟩), .pointer (some ⟨cb, 0, none⟩)] w fun e w' => e = .returned (.tuple #[]) ∧ StkAt w' sb w.heap.size cb ∧ Ch (fun k => k = sb) w w' := by
  have h0 : StM (fun _ => False) w sb 101 (.slice none 0 0) [] seg0 :=
    ⟨hs, ⟨rfl, .inl ⟨rfl, rfl⟩⟩, fun x hx => (by simp at hx; subst hx; rfl), fun _ _ h => h, by simp [Value.ownBlock]⟩
  refine (push_any w sb (.slice none 0 0) [] seg0 (some ⟨cb, 0, none⟩) (fun _ h => h.elim) h0 (by decide)).mono (fun e w' h => ?_)
  obtain ⟨h1, h2, h3⟩ := h
  refine ⟨h1, ⟨h2.blk, ?_⟩, h3⟩
  obtain ⟨b, q, e1, _, e2, e3⟩ := h2.ch _ (List.mem_append_right _ (List.mem_singleton.2 rfl))
  obtain rfl : w.heap.size = b := by cases e1; rfl
  obtain rfl : q = none := e3
  exact e2
theorem chk_funs {C : Cd.Code} (h : (Cd.chk C).1 = 0) : C.funs ≠ [] := by
  intro h0
  rw [Cd.chk_bad, if_pos (by simp [Cd.bad0, h0])] at h
  cases h
set_option maxRecDepth 100000 in
set_option maxHeartbeats 8000000 in
theorem cload_ok (s : List UInt8) (n : Nat) (w : World) (hg0 : w.cell? ⟨0, 0, none⟩ = some (.iface 214 (.agg #[.pointer (some ⟨1, 74, none⟩)]))) (hk : (Cd.dec s).2.1 = 0) (hk2 : (Cd.chk (Cd.dec s).1).1 = 0) (hcl : n ≤ 1000000) :
    Calls Tryz.prog 4 #[.string ⟨s.toArray⟩, .int .i64 n] w fun e w' => LoadYes w e w' := by
  have HN := hid (fun W : World => hnew_ok W n hcl)
  have HP := (cdecode_any (w.alloc (.cells #[.int .i64 0, .int .i64 0] 25)) (kcc ((Ch.refl _ w).al _) hg0) s).mono (fun e w' h => h.open)
  have hok := Cd.dec_ok s
  clear hg0
  generalize Cd.dec s = D at HP hk hk2 hok
  obtain ⟨C, k, a⟩ := D
  dsimp only at HP hk hk2 hok
  subst hk
  have HCK := hid (fun (W : World) (b c d : Value) (hM : CodeM W b c d C) => ccheck_any C b c d W hM hok)
  unfold codeV2 ChcPost at HCK
  have hfn := chk_funs hk2
  generalize Cd.chk C = q at HCK hk2
  obtain ⟨qk, qa⟩ := q
  dsimp only at HCK hk2
  subst hk2
  go_enter Tryz.func4, Tryz.ntmps4
  go_upto_region 2 with (go_at_call 8; refine HP.mono ?_; clear HP; rintro e w1 ⟨ao, co, ah, ch, af, cf, rfl, hM1, hC1⟩)
  have D := ldW_of (k := (0 : Int)) (a := (a : Nat)) hM1.out hC1.out
  clear hM1 hC1
  generalize ((w1.alloc (.cells #[.string ⟨C.shape.toArray⟩, .slice ao C.ops.length co, .slice ah C.hans.length ch, .slice af C.funs.length cf] 38)).alloc (.cells #[.int .i64 0, .int .i64 (a : Nat)] 25)) = W at D ⊢
  obtain ⟨f0, f1, ff⟩ := two_cells D.f
  obtain ⟨c0, c1, c2, c3, cff⟩ := four_cells D.c
  have HC := HCK.out W _ _ _ D.code
  clear HCK
  have hlt := D.lt
  replace D := hid D
  go_upto_region 4 with (first
    | (go_at_call 9
       refine HC.mono ?_
       clear HC
       rintro e w2 ⟨rfl, hb2⟩
       have D2 := D.out.step (k2 := 0) (a2 := (qa : Nat)) hb2
       have g0 := kc hb2 f0
       have g1 := kc hb2 f1
       have gf : ∀ i, w2.frozen? ⟨w1.heap.size + 1, i, none⟩ = false := fun i => by rw [World.frozen?_of_block (a := ⟨w1.heap.size + 1, i, none⟩) (w := W) (hb2.block _ (World.block_lt_of_cell? W ⟨w1.heap.size + 1, 0, none⟩ f0))]; exact ff i
       replace D2 := hid D2
       clear hb2))
  generalize ((w2.setCell ⟨w1.heap.size + 1, 0, none⟩ (.int .i64 0)).setCell ⟨w1.heap.size + 1, 1, none⟩ (.int .i64 (qa : Nat))) = V at D2 ⊢
  clear g0 g1 gf f0 f1 ff c0 c1 c2 c3 cff D
  obtain ⟨f0, f1, ff⟩ := two_cells D2.out.f
  obtain ⟨r0, r1, rf⟩ := two_cells D2.out.r
  obtain ⟨c0, c1, c2, c3, cff⟩ := four_cells D2.out.c
  go_upto_region 9 with (go_at_call 10; refine (HN.out _).mono ?_; clear HN; rintro e w3 ⟨rfl, hh3, hc3⟩)
  have d0 := kcc hc3 c0
  have d1 := kcc hc3 c1
  have d2 := kcc hc3 c2
  have d3 := kcc hc3 c3
  have e0 := kcc hc3 r0
  have e1 := kcc hc3 r1
  replace hh3 := hid hh3
  replace hc3 := hid hc3
  clear c0 c1 c2 c3 cff r0 r1 rf f0 f1 ff
  go_region_held3 (fun w' => w'.cell? ⟨w1.heap.size, 0, none⟩ = some (.string ⟨C.shape.toArray⟩) ∧ w'.cell? ⟨w1.heap.size, 1, none⟩ = some (.slice ao C.ops.length co) ∧ w'.cell? ⟨w1.heap.size, 2, none⟩ = some (.slice ah C.hans.length ch) ∧ w'.cell? ⟨w1.heap.size, 3, none⟩ = some (.slice af C.funs.length cf)) (go_keep)
    ((first
      | (go_at_call 11; refine (snew _).mono ?_; rintro en w4 ⟨rfl, hs4, hc4⟩
         have k0 := kcc hc4.out (show w3.drew.cell? _ = _ from d0)
         have k1 := kcc hc4.out (show w3.drew.cell? _ = _ from d1)
         have k2 := kcc hc4.out (show w3.drew.cell? _ = _ from d2)
         have k3 := kcc hc4.out (show w3.drew.cell? _ = _ from d3))
      | (go_at_call 12; refine (bare_any _).mono ?_; rintro en w5 ⟨p, rfl, hc5⟩
         have l0 := kcc hc5 k0
         have l1 := kcc hc5 k1
         have l2 := kcc hc5 k2
         have l3 := kcc hc5 k3
         replace hc5 := hid hc5)))
  clear l0 l1 l2 l3 k0 k1 k2 k3 d0 d1 d2 d3
  have hcA : Ch (fun _ => False) V w5 := chT hc3.out (chT ((Ch.refl _ w3).dr) (chT hc4.out hc5.out))
  have hVl : w1.heap.size < V.heap.size := (Array.getElem?_eq_some_iff.1 D2.out.c).1
  have hwl := D2.out.lt
  have hzA : V.heap.size ≤ w3.heap.size := hc3.out.size
  have hz4 : w3.heap.size < w4.heap.size := (Array.getElem?_eq_some_iff.1 hs4.out).1
  have hz5 : w4.heap.size ≤ w5.heap.size := hc5.out.size
  obtain ⟨X, hX⟩ : ∃ X, w5.alloc (.cells #[.string ⟨C.shape.toArray⟩, .slice ao C.ops.length co, .slice ah C.hans.length ch, .slice af C.funs.length cf, .int .i64 n, .pointer (some ⟨V.heap.size + 1, 0, none⟩), .pointer (some ⟨w3.heap.size, 0, none⟩), .pointer (some ⟨p, 0, none⟩), .int .i64 0, .string ⟨#[]⟩, .string ⟨#[]⟩, .int .i64 0] 58) = X := ⟨_, rfl⟩
  have hm : X.heap[w5.heap.size]? = some (.cells #[.string ⟨C.shape.toArray⟩, .slice ao C.ops.length co, .slice ah C.hans.length ch, .slice af C.funs.length cf, .int .i64 n, .pointer (some ⟨V.heap.size + 1, 0, none⟩), .pointer (some ⟨w3.heap.size, 0, none⟩), .pointer (some ⟨p, 0, none⟩), .int .i64 0, .string ⟨#[]⟩, .string ⟨#[]⟩, .int .i64 0] 58 (0, 0)) := by rw [← hX]; exact World.alloc_heap_new _ _
  have hcX : Ch (fun _ => False) V X := by rw [← hX]; exact hcA.al _
  have hzX : X.heap.size = w5.heap.size + 1 := by rw [← hX]; simp
  have hsX : X.heap[w3.heap.size]? = some (.cells #[.slice none 0 0, .pointer none, .int .i64 0, .pointer none, .bool false, .int .i64 0] 101 (0, 0)) := by
    rw [← hX]; exact blk_alloc ((hc5.out.same _ hz4 (fun h => h)).trans hs4.out)
  obtain ⟨hv, hh3'⟩ := hh3.out
  have hhl : V.heap.size + 1 < w3.heap.size := (Array.getElem?_eq_some_iff.1 hh3').1
  have hhX : X.heap[V.heap.size + 1]? = some (.cells #[hv, .int .i64 0] 93 (0, 0)) := by
    rw [← hX]; exact blk_alloc ((hc5.out.same _ (by omega) (fun h => h)).trans ((hc4.out.same _ hhl (fun h => h)).trans hh3'))
  have HMX := D2.out.m X (fun k hk => hcX.same k (by omega) (fun h => h)) (by have := hcX.size; omega)
  have hrX : X.heap[w.heap.size]? = some (.cells #[.int .i64 0, .int .i64 0] 25 (0, 0)) := (hcX.same _ (by omega) (fun h => h)).trans D2.out.r
  have hwX : Ch (fun _ => False) w X := chT D2.out.ch hcX
  rw [hX]
  clear hX hcX hcA hh3 hh3' hs4 hc3 hc4 hc5 D2 e0 e1
  -- the first function
  obtain ⟨_, _, ⟨af', cf', haf, _, hfs⟩⟩ := HMX
  obtain ⟨rfl, rfl⟩ : af' = af ∧ cf' = cf := by cases haf; exact ⟨rfl, rfl⟩
  obtain ⟨g, k, rfl, hfc⟩ := hfs hfn
  obtain ⟨f, F', hF⟩ := List.exists_cons_of_ne_nil hfn
  obtain ⟨-, hsl, -⟩ := hfc 0 f (by rw [hF]; rfl)
  simp only [Nat.zero_mul, Nat.add_zero] at hsl
  have m6 : X.cell? ⟨w5.heap.size, 6, none⟩ = some (.pointer (some ⟨w3.heap.size, 0, none⟩)) := by simp [World.cell?, hm]
  have m3 : X.cell? ⟨w5.heap.size, 3, none⟩ = some (.slice (some ⟨g, k, none⟩) C.funs.length cf') := by simp [World.cell?, hm]
  have HC := hid (fun (Y : World) (h1 : Y.cell? ⟨w5.heap.size, 3, none⟩ = some (.slice (some ⟨g, k, none⟩) C.funs.length cf')) (h2 : Y.cell? ⟨g, k + 1, none⟩ = some (.int .i64 f.slots)) => call_zero Y w5.heap.size g k C.funs.length cf' f.slots (by rw [hF]; simp) h1 h2)
  have HP := hid (fun (Y : World) (cb : Nat) (hs : Y.heap[w3.heap.size]? = some (.cells #[.slice none 0 0, .pointer none, .int .i64 0, .pointer none, .bool false, .int .i64 0] 101 (0, 0))) => push_new Y w3.heap.size cb hs)
  have HX : Hid (MX w X w5.heap.size (V.heap.size + 1) w3.heap.size) := ⟨⟨_, _, _, _, _, _, hm⟩, ⟨_, hhX⟩, hsX, hrX, hwX, by omega, by omega, by omega, by omega, by omega, by omega⟩
  clear hm hhX hsX hrX hwX hfc hfs hfn hF haf hzX hVl hwl hzA hz4 hz5 hhl
  go_upto_region 10 with (fail)
  go_region_held3 (fun w' => w'.cell? ⟨w5.heap.size, 6, none⟩ = some (.pointer (some ⟨w3.heap.size, 0, none⟩))) (go_keep)
    ((first
      | (go_at_call 14; refine (HC.out _ (by exact m3) (by exact hsl)).mono ?_; clear HC; rintro en w6 ⟨rfl, hcall, hc6⟩
         have hm6 := kcc hc6 (show X.drew.cell? _ = _ from m6)
         have hs6 : w6.heap[w3.heap.size]? = some (.cells #[.slice none 0 0, .pointer none, .int .i64 0, .pointer none, .bool false, .int .i64 0] 101 (0, 0)) := (hc6.same _ (Nat.lt_trans HX.out.l3 HX.out.l4) (fun h => h)).trans HX.out.s
         replace HP := HP.out w6 (X.heap.size + 2) hs6
         replace hcall := hid hcall
         replace hc6 := hid hc6
         replace hs6 := hid hs6)
      | (go_at_call 13; refine HP.mono ?_; clear HP; rintro en w7 ⟨rfl, hst, hc7⟩
         have hm7 : w7.cell? ⟨w5.heap.size, 6, none⟩ = some (.pointer (some ⟨w3.heap.size, 0, none⟩)) := (hc7.cell (p := ⟨w5.heap.size, 6, none⟩) (World.block_lt_of_cell? w6 _ hm6) (by have := HX.out.l3; dsimp only; omega)).trans hm6
         replace hst := hid hst
         replace hc7 := hid hc7)))
  clear hm6 hm7 m6 m3 hsl
  have hF7 := mf_of HX.out hcall.out hc6.out hst.out hc7.out (Nat.le_add_right _ _)
  obtain ⟨HMF, hr7, hch7, hl7⟩ := hF7
  clear HX hcall hc6 hst hc7 hs6
  obtain ⟨r0, r1, rf⟩ := two_cells hr7
  replace HMF := hid HMF
  replace hr7 := hid hr7
  replace hch7 := hid hch7
  go_wp2
  have hY := blk_set (i := 1) (v := .int .i64 0) (blk_set (i := 0) (v := .int .i64 0) hr7.out)
  have hcY : Ch (fun k => k = w.heap.size) w7 ((w7.setCell ⟨w.heap.size, 0, none⟩ (.int .i64 0)).setCell ⟨w.heap.size, 1, none⟩ (.int .i64 0)) := ((Ch.refl (fun k => k = w.heap.size) w7).set (a := ⟨w.heap.size, 0, none⟩) rfl _).set (a := ⟨w.heap.size, 1, none⟩) rfl _
  generalize (w7.setCell ⟨w.heap.size, 0, none⟩ (.int .i64 0)).setCell ⟨w.heap.size, 1, none⟩ (.int .i64 0) = Y at hY hcY ⊢
  have y0 : Y.cell? ⟨w.heap.size, 0, none⟩ = some (.int .i64 0) := by simp [World.cell?, hY]
  have y1 : Y.cell? ⟨w.heap.size, 1, none⟩ = some (.int .i64 0) := by simp [World.cell?, hY]
  refine bodyPost_ret (v := .tuple #[.pointer (some ⟨w5.heap.size, 0, none⟩), .agg #[.int .i64 0, .int .i64 0]]) (by simp [results, Tryz.results4, go_sem, y0, y1]) rfl ⟨w5.heap.size, V.heap.size + 1, w3.heap.size, w6.heap.size, X.heap.size + 2, rfl, HMF.out.2 Y hcY, hch7.out.trans hcY (fun k hk => .inr (by omega)), hl7⟩
end Go.Proofs.YtpjbfdpblgjmfaaGreatDoor
