/-
  The document's Load.
  The document's Load without a fault.
  Loads: the statement's own walk.
-/
import Derived.Test.YtpjbfdpblgjmfaaGreatDoorLr
set_option linter.unusedVariables false
set_option linter.unusedSimpArgs false
namespace Go.Proofs.YtpjbfdpblgjmfaaGreatDoor
open Go.RowKit Go.Lib

theorem rcheck_ok (C : Cd.Code) (vb vc vd : Value) (w : World) (hM : CodeM w vb vc vd C) (hok : Cd.ok C = true) : Calls Tryz.prog 16 #[codeV2 C vb vc vd] w (ChkPost C w) := by
  have hcn : C.shape.length ≤ 65535 ∧ C.ops.length ≤ 255 ∧ C.hans.length ≤ 65535 ∧ C.funs.length ≤ 65535 := by
    have h := hok
    unfold Cd.ok Cd.counts at h
    simp only [Bool.and_eq_true, decide_eq_true_eq] at h
    exact ⟨h.1.1.1.1.1.1, h.1.1.1.1.1.2, h.1.1.1.1.2, h.1.1.1.2⟩
  exact rcheck_any C vb vc vd w hM (Cd.ok_small hok) hcn.1 hcn.2.2.1 hcn.2.2.2 hcn.2.1

set_option maxRecDepth 100000 in
set_option maxHeartbeats 8000000 in
theorem rload_dec (s : List UInt8) (cells : Int) (w : World) (hk : (Cd.dec s).2.1 ≠ 0) :
    Calls Tryz.prog 5 #[.string ⟨s.toArray⟩, .int .i64 cells] w fun e w' => LoadNo s cells w e w' := by
  have hL : ldF s cells = (((Cd.dec s).2.1 : Int), (Cd.dec s).2.2) := by unfold ldF; rw [if_pos hk]
  have HL := hid hL
  clear hL
  have HP := (rdecode_any (w.alloc (.cells #[.int .i64 0, .int .i64 0] 25)) s).mono (fun e w' h => h.open)
  generalize Cd.dec s = D at HP HL hk
  obtain ⟨C, k, a⟩ := D
  dsimp only at HP HL hk
  have hk1 : ¬ ((k : Int) = 0) := by omega
  go_enter Tryz.func5, Tryz.ntmps5
  go_upto_region 2 with (go_at_call 15; refine HP.mono ?_; clear HP; rintro e w1 ⟨ao, co, ah, ch, af, cf, rfl, hM1, hC1⟩)
  have D := ldW_of (k := (k : Nat)) (a := (a : Nat)) hM1.out hC1.out
  clear hM1 hC1
  generalize ((w1.alloc (.cells #[.string ⟨C.shape.toArray⟩, .slice ao C.ops.length co, .slice ah C.hans.length ch, .slice af C.funs.length cf] 38)).alloc (.cells #[.int .i64 (k : Nat), .int .i64 (a : Nat)] 25)) = W at D ⊢
  obtain ⟨f0, f1, ff⟩ := two_cells D.f
  obtain ⟨r0, r1, rf⟩ := two_cells D.r
  have hlt := D.lt
  replace D := hid D
  go_wp2
  go_region
  all_goals go_wp2
  all_goals exact no_fin (F := Tryz.f5) rfl rfl rfl rfl (blk_drL (blk_set (blk_set D.out.r))) HL.out ((chn (chn D.out.ch (by simp)) (by simp)).dr)

set_option maxRecDepth 100000 in
set_option maxHeartbeats 8000000 in
theorem rload_chk (s : List UInt8) (cells : Int) (w : World) (hk : (Cd.dec s).2.1 = 0) (hk2 : (Cd.chk (Cd.dec s).1).1 ≠ 0) :
    Calls Tryz.prog 5 #[.string ⟨s.toArray⟩, .int .i64 cells] w fun e w' => LoadNo s cells w e w' := by
  have hL : ldF s cells = Cd.chk (Cd.dec s).1 := by unfold ldF; rw [if_neg (fun h => h hk), if_pos hk2]
  have HL := hid hL
  clear hL
  have HP := (rdecode_any (w.alloc (.cells #[.int .i64 0, .int .i64 0] 25)) s).mono (fun e w' h => h.open)
  have hok := Cd.dec_ok s
  generalize Cd.dec s = D at HP HL hk hk2 hok
  obtain ⟨C, k, a⟩ := D
  dsimp only at HP HL hk hk2 hok
  subst hk
  have HCK := hid (fun (W : World) (b c d : Value) (hM : CodeM W b c d C) => rcheck_ok C b c d W hM hok)
  unfold codeV2 ChkPost at HCK
  generalize Cd.chk C = q at HCK HL hk2
  obtain ⟨qk, qa⟩ := q
  dsimp only at HCK HL hk2
  go_enter Tryz.func5, Tryz.ntmps5
  go_upto_region 2 with (go_at_call 15; refine HP.mono ?_; clear HP; rintro e w1 ⟨ao, co, ah, ch, af, cf, rfl, hM1, hC1⟩)
  have D := ldW_of (k := (0 : Int)) (a := (a : Nat)) hM1.out hC1.out
  clear hM1 hC1
  generalize ((w1.alloc (.cells #[.string ⟨C.shape.toArray⟩, .slice ao C.ops.length co, .slice ah C.hans.length ch, .slice af C.funs.length cf] 38)).alloc (.cells #[.int .i64 0, .int .i64 (a : Nat)] 25)) = W at D ⊢
  obtain ⟨f0, f1, ff⟩ := two_cells D.f
  obtain ⟨c0, c1, c2, c3, cff⟩ := four_cells D.c
  have HC := HCK.out W _ _ _ D.code
  clear HCK
  have hlt := D.lt
  replace D := hid D
  go_upto_region 4 with (first
    | (go_at_call 16
       refine HC.mono ?_
       clear HC
       rintro e w2 ⟨rfl, hb2⟩
       have D2 := D.out.step (k2 := qk) (a2 := (qa : Nat)) hb2
       have g0 := kc hb2 f0
       have g1 := kc hb2 f1
       have gf : ∀ i, w2.frozen? ⟨w1.heap.size + 1, i, none⟩ = false := fun i => by rw [World.frozen?_of_block (a := ⟨w1.heap.size + 1, i, none⟩) (w := W) (hb2.block _ (World.block_lt_of_cell? W ⟨w1.heap.size + 1, 0, none⟩ f0))]; exact ff i
       replace D2 := hid D2
       clear hb2))
  generalize ((w2.setCell ⟨w1.heap.size + 1, 0, none⟩ (.int .i64 qk)).setCell ⟨w1.heap.size + 1, 1, none⟩ (.int .i64 (qa : Nat))) = V at D2 ⊢
  clear g0 g1 gf f0 f1 ff c0 c1 c2 c3 cff D
  obtain ⟨f0, f1, ff⟩ := two_cells D2.out.f
  obtain ⟨r0, r1, rf⟩ := two_cells D2.out.r
  go_wp2
  go_region
  all_goals go_wp2
  all_goals exact no_fin (F := Tryz.f5) rfl rfl rfl rfl (blk_drL (blk_set (blk_set D2.out.r))) HL.out ((chn (chn D2.out.ch (by simp)) (by simp)).dr)
set_option maxRecDepth 100000 in
set_option maxHeartbeats 8000000 in
theorem rload_arg (s : List UInt8) (cells : Int) (w : World) (hk : (Cd.dec s).2.1 = 0) (hk2 : (Cd.chk (Cd.dec s).1).1 = 0) (hcl : cells < 0 ∨ 1000000 < cells) :
    Calls Tryz.prog 5 #[.string ⟨s.toArray⟩, .int .i64 cells] w fun e w' => LoadNo s cells w e w' := by
  have hL : ldF s cells = (11, 0) := by unfold ldF; rw [if_neg (fun h => h hk), if_neg (fun h => h hk2), if_pos hcl]
  have HL := hid hL
  clear hL
  have HP := (rdecode_any (w.alloc (.cells #[.int .i64 0, .int .i64 0] 25)) s).mono (fun e w' h => h.open)
  have hok := Cd.dec_ok s
  generalize Cd.dec s = D at HP HL hk hk2 hok
  obtain ⟨C, k, a⟩ := D
  dsimp only at HP HL hk hk2 hok
  subst hk
  have HCK := hid (fun (W : World) (b c d : Value) (hM : CodeM W b c d C) => rcheck_ok C b c d W hM hok)
  unfold codeV2 ChkPost at HCK
  generalize Cd.chk C = q at HCK HL hk2
  obtain ⟨qk, qa⟩ := q
  dsimp only at HCK HL hk2
  subst hk2
  go_enter Tryz.func5, Tryz.ntmps5
  go_upto_region 2 with (go_at_call 15; refine HP.mono ?_; clear HP; rintro e w1 ⟨ao, co, ah, ch, af, cf, rfl, hM1, hC1⟩)
  have D := ldW_of (k := (0 : Int)) (a := (a : Nat)) hM1.out hC1.out
  clear hM1 hC1
  generalize ((w1.alloc (.cells #[.string ⟨C.shape.toArray⟩, .slice ao C.ops.length co, .slice ah C.hans.length ch, .slice af C.funs.length cf] 38)).alloc (.cells #[.int .i64 0, .int .i64 (a : Nat)] 25)) = W at D ⊢
  obtain ⟨f0, f1, ff⟩ := two_cells D.f
  obtain ⟨c0, c1, c2, c3, cff⟩ := four_cells D.c
  have HC := HCK.out W _ _ _ D.code
  clear HCK
  have hlt := D.lt
  replace D := hid D
  go_upto_region 4 with (first
    | (go_at_call 16
       refine HC.mono ?_
       clear HC
       rintro e w2 ⟨rfl, hb2⟩
       have D2 := D.out.step (k2 := 0) (a2 := (qa : Nat)) hb2
       have g0 := kc hb2 f0
       have g1 := kc hb2 f1
       have gf : ∀ i, w2.frozen? ⟨w1.heap.size + 1, i, none⟩ = false := fun i => by rw [World.frozen?_of_block (a := ⟨w1.heap.size + 1, i, none⟩) (w := W) (hb2.block _ (World.block_lt_of_cell? W ⟨w1.heap.size + 1, 0, none⟩ f0))]; exact ff i
       replace D2 := hid D2
       clear hb2))
  generalize ((w2.setCell ⟨w1.heap.size + 1, 0, none⟩ (.int .i64 0)).setCell ⟨w1.heap.size + 1, 1, none⟩ (.int .i64 (qa : Nat))) = V at D2 ⊢
  clear g0 g1 gf f0 f1 ff c0 c1 c2 c3 cff D
  obtain ⟨f0, f1, ff⟩ := two_cells D2.out.f
  obtain ⟨r0, r1, rf⟩ := two_cells D2.out.r
  have D3 := D2.out.step (k2 := 11) (a2 := 0) (Below.refl _ V)
  obtain ⟨h0, h1, hf⟩ := two_cells D3.f
  obtain ⟨s0, s1, sf⟩ := two_cells D3.r
  replace D3 := hid D3
  rcases hcl with hcl | hcl
  · go_upto_region 7 with (fail)
    generalize (V.setCell ⟨w1.heap.size + 1, 0, none⟩ (.int .i64 11)).setCell ⟨w1.heap.size + 1, 1, none⟩ (.int .i64 0) = Y at D3 h0 h1 hf s0 s1 sf ⊢
    go_region
    all_goals go_wp2
    all_goals exact no_fin (F := Tryz.f5) rfl rfl rfl rfl (blk_drL (blk_set (blk_set D3.out.r))) HL.out ((chn (chn D3.out.ch (by simp)) (by simp)).dr)
  · have hcl1 : ¬ (cells < 0) := by omega
    go_upto_region 7 with (fail)
    generalize (V.setCell ⟨w1.heap.size + 1, 0, none⟩ (.int .i64 11)).setCell ⟨w1.heap.size + 1, 1, none⟩ (.int .i64 0) = Y at D3 h0 h1 hf s0 s1 sf ⊢
    go_region
    all_goals go_wp2
    all_goals exact no_fin (F := Tryz.f5) rfl rfl rfl rfl (blk_drL (blk_set (blk_set D3.out.r))) HL.out ((chn (chn D3.out.ch (by simp)) (by simp)).dr)
end Go.Proofs.YtpjbfdpblgjmfaaGreatDoor

namespace Go.Proofs.YtpjbfdpblgjmfaaGreatDoor
open Go.RowKit Go.Lib

/-- The document's Load without a fault: how the machine stands. -/
def RYes (w : World) (e : Ending) (w' : World) : Prop := ∃ rb, e = .returned (.tuple #[.pointer (some ⟨rb, 0, none⟩), .agg #[.int .i64 0, .int .i64 0]]) ∧ (w'.cell? ⟨rb, 8, none⟩ = some (.int .i64 0) ∧ w'.cell? ⟨rb, 9, none⟩ = some (.string ⟨#[]⟩) ∧ w'.cell? ⟨rb, 10, none⟩ = some (.string ⟨#[]⟩) ∧ w'.cell? ⟨rb, 11, none⟩ = some (.int .i64 0)) ∧ Ch (fun _ => False) w w'

theorem slots_nat {C : Cd.Code} {f : Cd.Fun} (h : Cd.ok C = true) (hf : f ∈ C.funs) : ∃ n : Nat, f.slots = (n : Int) ∧ n ≤ 65535 := by
  unfold Cd.ok at h
  simp only [Bool.and_eq_true, List.all_eq_true] at h
  have := h.2 f hf
  simp only [Cd.funOk, Cd.fits, Bool.and_eq_true, decide_eq_true_eq] at this
  exact ⟨f.slots.toNat, by omega, by omega⟩
set_option maxRecDepth 100000 in
set_option maxHeartbeats 8000000 in
theorem rload_ok (s : List UInt8) (n : Nat) (w : World) (hk : (Cd.dec s).2.1 = 0) (hk2 : (Cd.chk (Cd.dec s).1).1 = 0) (hcl : n ≤ 1000000) :
    Calls Tryz.prog 5 #[.string ⟨s.toArray⟩, .int .i64 n] w fun e w' => RYes w e w' := by
  have HP := (rdecode_any (w.alloc (.cells #[.int .i64 0, .int .i64 0] 25)) s).mono (fun e w' h => h.open)
  have hok := Cd.dec_ok s
  generalize Cd.dec s = D at HP hk hk2 hok
  obtain ⟨C, k, a⟩ := D
  dsimp only at HP hk hk2 hok
  subst hk
  have HCK := hid (fun (W : World) (b c d : Value) (hM : CodeM W b c d C) => rcheck_ok C b c d W hM hok)
  unfold codeV2 ChkPost at HCK
  have hfn := chk_funs hk2
  generalize Cd.chk C = q at HCK hk2
  obtain ⟨qk, qa⟩ := q
  dsimp only at HCK hk2
  subst hk2
  go_enter Tryz.func5, Tryz.ntmps5
  go_upto_region 2 with (go_at_call 15; refine HP.mono ?_; clear HP; rintro e w1 ⟨ao, co, ah, ch, af, cf, rfl, hM1, hC1⟩)
  have D := ldW_of (k := (0 : Int)) (a := (a : Nat)) hM1.out hC1.out
  clear hM1 hC1
  generalize ((w1.alloc (.cells #[.string ⟨C.shape.toArray⟩, .slice ao C.ops.length co, .slice ah C.hans.length ch, .slice af C.funs.length cf] 38)).alloc (.cells #[.int .i64 0, .int .i64 (a : Nat)] 25)) = W at D ⊢
  obtain ⟨f0, f1, ff⟩ := two_cells D.f
  obtain ⟨c0, c1, c2, c3, cff⟩ := four_cells D.c
  have HC := HCK.out W _ _ _ D.code
  clear HCK
  have hlt := D.lt
  replace D := hid D
  go_upto_region 4 with (first
    | (go_at_call 16
       refine HC.mono ?_
       clear HC
       rintro e w2 ⟨rfl, hb2⟩
       have D2 := D.out.step (k2 := 0) (a2 := (qa : Nat)) hb2
       have g0 := kc hb2 f0
       have g1 := kc hb2 f1
       have gf : ∀ i, w2.frozen? ⟨w1.heap.size + 1, i, none⟩ = false := fun i => by rw [World.frozen?_of_block (a := ⟨w1.heap.size + 1, i, none⟩) (w := W) (hb2.block _ (World.block_lt_of_cell? W ⟨w1.heap.size + 1, 0, none⟩ f0))]; exact ff i
       replace D2 := hid D2
       clear hb2))
  generalize ((w2.setCell ⟨w1.heap.size + 1, 0, none⟩ (.int .i64 0)).setCell ⟨w1.heap.size + 1, 1, none⟩ (.int .i64 (qa : Nat))) = V at D2 ⊢
  clear g0 g1 gf f0 f1 ff c0 c1 c2 c3 cff D
  obtain ⟨f0, f1, ff⟩ := two_cells D2.out.f
  obtain ⟨r0, r1, rf⟩ := two_cells D2.out.r
  obtain ⟨c0, c1, c2, c3, cff⟩ := four_cells D2.out.c
  have hn1 : ¬ ((n : Int) < 0) := by omega
  have hn2 : ¬ ((1000000 : Int) < (n : Int)) := by omega
  have hmm : ∀ W : World, Sem.run Tryz.prog (Instr.makeMap 39 none) W = .ok (.map (some W.heap.size)) (W.alloc (.map #[] 0)) := fun W => by kernel_rfl
  go_upto_region 9 with (fail)
  clear hmm
  have hVl : w1.heap.size < V.heap.size := (Array.getElem?_eq_some_iff.1 D2.out.c).1
  have hwl := D2.out.lt
  obtain ⟨X, hX⟩ : ∃ X, ((V.alloc (.map #[] 0)).alloc (.cells #[.bool false, .bool false, .int .i64 0, .slice none 0 0] 65)).alloc (.cells #[.string ⟨C.shape.toArray⟩, .slice ao C.ops.length co, .slice ah C.hans.length ch, .slice af C.funs.length cf, .int .i64 n, .map (some V.heap.size), .int .i64 0, .slice (some ⟨V.heap.size + 1, 0, none⟩) 1 1, .int .i64 0, .string ⟨#[]⟩, .string ⟨#[]⟩, .int .i64 0] 42) = X := ⟨_, rfl⟩
  have hcX : Ch (fun _ => False) V X := by rw [← hX]; exact (((Ch.refl _ V).al _).al _).al _
  have hm : X.heap[V.heap.size + 2]? = some (.cells #[.string ⟨C.shape.toArray⟩, .slice ao C.ops.length co, .slice ah C.hans.length ch, .slice af C.funs.length cf, .int .i64 n, .map (some V.heap.size), .int .i64 0, .slice (some ⟨V.heap.size + 1, 0, none⟩) 1 1, .int .i64 0, .string ⟨#[]⟩, .string ⟨#[]⟩, .int .i64 0] 42 (0, 0)) := by
    rw [← hX]; have := World.alloc_heap_new ((V.alloc (.map #[] 0)).alloc (.cells #[.bool false, .bool false, .int .i64 0, .slice none 0 0] 65)) (.cells #[.string ⟨C.shape.toArray⟩, .slice ao C.ops.length co, .slice ah C.hans.length ch, .slice af C.funs.length cf, .int .i64 n, .map (some V.heap.size), .int .i64 0, .slice (some ⟨V.heap.size + 1, 0, none⟩) 1 1, .int .i64 0, .string ⟨#[]⟩, .string ⟨#[]⟩, .int .i64 0] 42); rwa [World.size_alloc, World.size_alloc] at this
  have hq : X.heap[V.heap.size + 1]? = some (.cells #[.bool false, .bool false, .int .i64 0, .slice none 0 0] 65 (0, 0)) := by
    rw [← hX]; refine blk_alloc ?_; have := World.alloc_heap_new (V.alloc (.map #[] 0)) (.cells #[.bool false, .bool false, .int .i64 0, .slice none 0 0] 65); rwa [World.size_alloc] at this
  have HMX := D2.out.m X (fun k hk => hcX.same k (by omega) (fun h => h)) (by have := hcX.size; omega)
  have hgX : ∀ k, k < w1.heap.size → k < V.heap.size := fun k hk => by omega
  have hrX : X.heap[w.heap.size]? = some (.cells #[.int .i64 0, .int .i64 0] 25 (0, 0)) := (hcX.same _ (by omega) (fun h => h)).trans D2.out.r
  have hwX : Ch (fun _ => False) w X := chT D2.out.ch hcX
  have HMV := D2.out.code
  rw [hX]
  clear hX D2 f0 f1 ff r0 r1 rf c0 c1 c2 c3 cff hn1 hn2
  -- the first function
  obtain ⟨_, _, ⟨af', cf', haf, _, hfs⟩⟩ := HMV
  obtain ⟨rfl, rfl⟩ : af' = af ∧ cf' = cf := by cases haf; exact ⟨rfl, rfl⟩
  obtain ⟨g, k, rfl, hfc⟩ := hfs hfn
  obtain ⟨f, F', hF⟩ := List.exists_cons_of_ne_nil hfn
  obtain ⟨-, hslV, -⟩ := hfc 0 f (by rw [hF]; rfl)
  simp only [Nat.zero_mul, Nat.add_zero] at hslV
  have hgl : g < V.heap.size := World.block_lt_of_cell? V _ hslV
  have hsl := kcc hcX hslV
  obtain ⟨m, hm0, hm1⟩ := slots_nat hok (by rw [hF]; exact List.mem_cons_self : f ∈ C.funs)
  rw [hm0] at hsl
  have m7 : X.cell? ⟨V.heap.size + 2, 7, none⟩ = some (.slice (some ⟨V.heap.size + 1, 0, none⟩) 1 1) := by simp [World.cell?, hm]
  have m3 : X.cell? ⟨V.heap.size + 2, 3, none⟩ = some (.slice (some ⟨g, k, none⟩) C.funs.length cf') := by simp [World.cell?, hm]
  have HE := enter_zero X (V.heap.size + 2) (V.heap.size + 1) g k C.funs.length cf' m hm1 (by rw [hF]; simp) (by omega) (by omega) m7 hq m3 hsl
  have HE2 : Calls Tryz.prog 17 #[.pointer (some ⟨V.heap.size + 1 + 1, 0, none⟩), .agg #[.bool false, .int .i64 0], .int .i64 0, .agg #[.bool false, .int .i64 0]] X fun e w' => e = .returned (.tuple #[]) ∧ (w'.heap[V.heap.size + 2]? = X.heap[V.heap.size + 2]? ∧ w'.heap[w.heap.size]? = X.heap[w.heap.size]? ∧ Ch (fun _ => False) w w') := HE.mono (fun e w' h => ⟨h.1, h.2.same _ (Array.getElem?_eq_some_iff.1 hm).1 (by omega), h.2.same _ (Array.getElem?_eq_some_iff.1 hrX).1 (by omega), hwX.trans h.2 (fun k hk => .inr (by omega))⟩)
  clear HE m7 m3 hsl hslV hfc hfs hF haf hfn hok hq hwX
  have HM := hid hm
  have HR := hid hrX
  clear hm hrX hVl hwl hgl hgX hm0 hm1 hcX HMX
  go_upto_region 10 with (go_at_call 17; refine HE2.mono ?_; clear HE2; rintro e w2 ⟨rfl, hm2, hr2, hc2⟩)
  have hm2' := hm2.trans HM.out
  have hr2' := hr2.trans HR.out
  clear hm2 hr2 HM HR
  obtain ⟨r0, r1, rf⟩ := two_cells hr2'
  have hne : V.heap.size + 2 ≠ w.heap.size := fun e => by rw [e] at hm2'; rw [hm2'] at hr2'; cases hr2'
  replace hr2' := hid hr2'
  replace hm2' := hid hm2'
  replace hc2 := hid hc2
  go_wp2
  have hY := blk_set (i := 1) (v := .int .i64 0) (blk_set (i := 0) (v := .int .i64 0) hr2'.out)
  have hMY := blk_other (a := ⟨w.heap.size, 1, none⟩) (v := .int .i64 0) (blk_other (a := ⟨w.heap.size, 0, none⟩) (v := .int .i64 0) hm2'.out hne) hne
  have hcY : Ch (fun _ => False) w ((w2.setCell ⟨w.heap.size, 0, none⟩ (.int .i64 0)).setCell ⟨w.heap.size, 1, none⟩ (.int .i64 0)) := chn (chn hc2.out (by simp)) (by simp)
  generalize (w2.setCell ⟨w.heap.size, 0, none⟩ (.int .i64 0)).setCell ⟨w.heap.size, 1, none⟩ (.int .i64 0) = Y at hY hMY hcY ⊢
  have y0 : Y.cell? ⟨w.heap.size, 0, none⟩ = some (.int .i64 0) := by simp [World.cell?, hY]
  have y1 : Y.cell? ⟨w.heap.size, 1, none⟩ = some (.int .i64 0) := by simp [World.cell?, hY]
  refine bodyPost_ret (v := .tuple #[.pointer (some ⟨V.heap.size + 2, 0, none⟩), .agg #[.int .i64 0, .int .i64 0]]) (by simp [results, Tryz.results5, go_sem, y0, y1]) rfl ⟨V.heap.size + 2, rfl, ⟨?_, ?_, ?_, ?_⟩, hcY⟩
  all_goals simp [World.cell?, hMY]
end Go.Proofs.YtpjbfdpblgjmfaaGreatDoor

namespace Go.Proofs.YtpjbfdpblgjmfaaGreatDoor
open Go.RowKit Go.Lib

theorem MF.dr {w : World} {mb hb sb fb cb : Nat} (h : MF w mb hb sb fb cb) : MF w.drew mb hb sb fb cb := h.keep (Ch.refl _ w).dr
theorem ldF_ok {s : List UInt8} {cells : Int} (h : (ldF s cells).1 = 0) : (Cd.dec s).2.1 = 0 ∧ (Cd.chk (Cd.dec s).1).1 = 0 ∧ ∃ n : Nat, cells = (n : Int) ∧ n ≤ 1000000 := by
  unfold ldF at h
  by_cases h1 : (Cd.dec s).2.1 ≠ 0
  · rw [if_pos h1] at h
    dsimp only at h
    omega
  · rw [if_neg h1] at h
    by_cases h2 : (Cd.chk (Cd.dec s).1).1 ≠ 0
    · rw [if_pos h2] at h
      exact absurd h h2
    · rw [if_neg h2] at h
      by_cases h3 : cells < 0 ∨ 1000000 < cells
      · rw [if_pos h3] at h
        cases h
      · exact ⟨by omega, by omega, cells.toNat, by omega, by omega⟩
theorem cload_no (s : List UInt8) (cells : Int) (w : World) (hg0 : w.cell? ⟨0, 0, none⟩ = some (.iface 214 (.agg #[.pointer (some ⟨1, 74, none⟩)]))) (h : (ldF s cells).1 ≠ 0) :
    Calls Tryz.prog 4 #[.string ⟨s.toArray⟩, .int .i64 cells] w fun e w' => LoadNo s cells w e w' := by
  by_cases h1 : (Cd.dec s).2.1 = 0
  · by_cases h2 : (Cd.chk (Cd.dec s).1).1 = 0
    · by_cases h3 : cells < 0 ∨ 1000000 < cells
      · exact cload_arg s cells w hg0 h1 h2 h3
      · exact absurd (by unfold ldF; rw [if_neg (fun h => h h1), if_neg (fun h => h h2), if_neg h3]) h
    · exact cload_chk s cells w hg0 h1 h2
  · exact cload_dec s cells w hg0 h1
theorem rload_no (s : List UInt8) (cells : Int) (w : World) (h : (ldF s cells).1 ≠ 0) :
    Calls Tryz.prog 5 #[.string ⟨s.toArray⟩, .int .i64 cells] w fun e w' => LoadNo s cells w e w' := by
  by_cases h1 : (Cd.dec s).2.1 = 0
  · by_cases h2 : (Cd.chk (Cd.dec s).1).1 = 0
    · by_cases h3 : cells < 0 ∨ 1000000 < cells
      · exact rload_arg s cells w h1 h2 h3
      · exact absurd (by unfold ldF; rw [if_neg (fun h => h h1), if_neg (fun h => h h2), if_neg h3]) h
    · exact rload_chk s cells w h1 h2
  · exact rload_dec s cells w h1

set_option maxRecDepth 100000 in
set_option maxHeartbeats 8000000 in
theorem Loads_no (s : List UInt8) (cells : Int) (w : World) (hg0 : w.cell? ⟨0, 0, none⟩ = some (.iface 214 (.agg #[.pointer (some ⟨1, 74, none⟩)]))) (h : (ldF s cells).1 ≠ 0) :
    Calls Tryz.prog 3 #[.string ⟨s.toArray⟩, .int .i64 cells] w fun e w' => e = .returned (.bool true) ∧ Ch (fun _ => False) w w' := by
  have HP := cload_no s cells w hg0 h
  have HR := hid (fun W : World => rload_no s cells W h)
  unfold LoadNo at HP HR
  clear hg0 h
  generalize ldF s cells = q at HP HR
  obtain ⟨k, a⟩ := q
  dsimp only at HP HR
  go_enter Tryz.func3, Tryz.ntmps3
  go_upto_region 3 with (first
    | (go_at_call 4; refine HP.mono ?_; clear HP; rintro e w1 ⟨rfl, hC1⟩)
    | (go_at_call 5; refine (HR.out _).mono ?_; clear HR; rintro e w2 ⟨rfl, hC2⟩))
  obtain ⟨W, hW⟩ : ∃ W, w2.alloc (.cells #[.int .i64 k, .int .i64 (a : Nat)] 25) = W := ⟨_, rfl⟩
  have hf : w2.heap[w1.heap.size]? = some (.cells #[.int .i64 k, .int .i64 (a : Nat)] 25 (0, 0)) := (hC2.same _ (by simp) (fun h => h)).trans (World.alloc_heap_new _ _)
  have hfW : W.heap[w1.heap.size]? = some (.cells #[.int .i64 k, .int .i64 (a : Nat)] 25 (0, 0)) := by rw [← hW]; exact blk_alloc hf
  have hgW : W.heap[w2.heap.size]? = some (.cells #[.int .i64 k, .int .i64 (a : Nat)] 25 (0, 0)) := by rw [← hW]; exact World.alloc_heap_new _ _
  have hcW : Ch (fun _ => False) w W := by rw [← hW]; exact (chT (hC1.al _) hC2).al _
  rw [hW]
  clear hW hf hC1 hC2
  obtain ⟨f0, f1, -⟩ := two_cells hfW
  obtain ⟨g0, g1, -⟩ := two_cells hgW
  replace hcW := hid hcW
  clear hfW hgW
  go_wp2
  go_quiet (fail)
  go_wp2
  go_ret
  exact ⟨rfl, ⟨hcW.out.size, hcW.out.same, hcW.out.eo⟩⟩
set_option maxRecDepth 100000 in
set_option maxHeartbeats 8000000 in
theorem Loads_yes (s : List UInt8) (n : Nat) (hn : n ≤ 1000000) (w : World) (hg0 : w.cell? ⟨0, 0, none⟩ = some (.iface 214 (.agg #[.pointer (some ⟨1, 74, none⟩)]))) (h1 : (Cd.dec s).2.1 = 0) (h2 : (Cd.chk (Cd.dec s).1).1 = 0) :
    Calls Tryz.prog 3 #[.string ⟨s.toArray⟩, .int .i64 n] w fun e w' => e = .returned (.bool true) ∧ Ch (fun _ => False) w w' := by
  have HP := cload_ok s n w hg0 h1 h2 hn
  have HR := hid (fun W : World => rload_ok s n W h1 h2 hn)
  unfold LoadYes at HP
  unfold RYes at HR
  clear hg0 h1 h2
  have HT := hid (fun (W : World) (mb hb sb fb cb : Nat) (h : MF W mb hb sb fb cb) => tell_zero W mb hb sb fb cb h)
  go_enter Tryz.func3, Tryz.ntmps3
  go_upto_region 3 with (first
    | (go_at_call 4; refine HP.mono ?_; clear HP; rintro e w1 ⟨mb, hb, sb, fb, cb, rfl, hMF, hC1, hhb⟩)
    | (go_at_call 5; refine (HR.out _).mono ?_; clear HR; rintro e w2 ⟨rb, rfl, hO, hC2⟩))
  obtain ⟨W, hW⟩ : ∃ W, w2.alloc (.cells #[.int .i64 0, .int .i64 0] 25) = W := ⟨_, rfl⟩
  have hf : w2.heap[w1.heap.size]? = some (.cells #[.int .i64 0, .int .i64 0] 25 (0, 0)) := (hC2.same _ (by simp) (fun h => h)).trans (World.alloc_heap_new _ _)
  have hfW : W.heap[w1.heap.size]? = some (.cells #[.int .i64 0, .int .i64 0] 25 (0, 0)) := by rw [← hW]; exact blk_alloc hf
  have hgW : W.heap[w2.heap.size]? = some (.cells #[.int .i64 0, .int .i64 0] 25 (0, 0)) := by rw [← hW]; exact World.alloc_heap_new _ _
  have hcW : Ch (fun _ => False) w W := by rw [← hW]; exact (chT (hC1.al _) hC2).al _
  have hMW : MF W mb hb sb fb cb := by rw [← hW]; exact hMF.keep ((chT ((Ch.refl _ w1).al _) hC2).al _)
  obtain ⟨o0, o1, o2, o3⟩ := hO
  have hk2 : Ch (fun _ => False) w2 W := by rw [← hW]; exact (Ch.refl _ w2).al _
  replace o0 := kcc hk2 o0
  replace o1 := kcc hk2 o1
  replace o2 := kcc hk2 o2
  replace o3 := kcc hk2 o3
  have hne : rb ≠ hb := fun e => by
    obtain ⟨v, hv⟩ := hMW.h
    rw [e] at o1
    simp [World.cell?, hv] at o0 o1
  have HMF := hid hMW
  replace HT := hid (fun (Y : World) (h : MF Y mb hb sb fb cb) => HT.out Y mb hb sb fb cb h)
  rw [hW]
  clear hW hf hC1 hC2 hMW hMF hk2
  obtain ⟨f0, f1, -⟩ := two_cells hfW
  obtain ⟨g0, g1, -⟩ := two_cells hgW
  replace hcW := hid hcW
  clear hfW hgW
  go_upto_region 5 with (fail)
  refine wp_region_held_drew (S := (fun w' => w'.cell? ⟨rb, 8, none⟩ = some (.int .i64 0) ∧ w'.cell? ⟨rb, 9, none⟩ = some (.string ⟨#[]⟩) ∧ w'.cell? ⟨rb, 10, none⟩ = some (.string ⟨#[]⟩) ∧ w'.cell? ⟨rb, 11, none⟩ = some (.int .i64 0))) (by kernel_rfl) (by first | trivial | ((try dsimp only); go_keep)) (fun hHeld => ?_)
  refine wpAnyH_take (i := 0) (v := ?vvy1) rfl (by kernel_rfl) (by kernel_rfl) (by kernel_rfl) (fun _ _ _ h => h) (Or.inl ⟨by rfl, ?yyy1⟩) (by assumption) ?rry1
  case yyy1 => (intro w' hSw; (try dsimp only at hSw); go_simp; (try with_reducible rfl))
  try simp only [Act.put, List.setIfInBounds_toArray, List.set_cons_zero, List.set_cons_succ]
  refine wpAnyH_take (i := 1) (v := ?vvy2) rfl (by kernel_rfl) (by kernel_rfl) (by kernel_rfl) (fun _ _ _ h => h) (Or.inl ⟨by rfl, ?yyy2⟩) (by assumption) ?rry2
  case yyy2 => (intro w' hSw; (try dsimp only at hSw); go_simp; (try with_reducible rfl))
  try simp only [Act.put, List.setIfInBounds_toArray, List.set_cons_zero, List.set_cons_succ]
  refine wpAnyH_take (i := 2) (v := ?vvy3) rfl (by kernel_rfl) (by kernel_rfl) (by kernel_rfl) (fun _ _ _ h => h) (Or.inl ⟨by rfl, ?yyy3⟩) (by assumption) ?rry3
  case yyy3 => (intro w' hSw; (try dsimp only at hSw); go_simp; (try with_reducible rfl))
  try simp only [Act.put, List.setIfInBounds_toArray, List.set_cons_zero, List.set_cons_succ]
  refine wpAnyH_take (i := 3) (v := ?vvy4) rfl (by kernel_rfl) (by kernel_rfl) (by kernel_rfl) (fun _ _ _ h => h) (Or.inl ⟨by simp [Region.wanted, yielded], ?yyy4⟩) (by assumption) ?rry4
  case yyy4 => (intro w' hSw; (try dsimp only at hSw); go_simp; (try with_reducible rfl))
  try simp only [Act.put, List.setIfInBounds_toArray, List.set_cons_zero, List.set_cons_succ]
  refine wpAnyH_take (i := 5) (v := ?vvy5) rfl (by kernel_rfl) (by kernel_rfl) (by kernel_rfl) (fun _ _ _ h => h) (Or.inl ⟨by simp [Region.wanted, yielded], ?yyy5⟩) (by assumption) ?rry5
  case yyy5 => (intro w' hSw; (try dsimp only at hSw); go_simp; (try with_reducible rfl))
  try simp only [Act.put, List.setIfInBounds_toArray, List.set_cons_zero, List.set_cons_succ]
  refine wpAnyH_take (i := 6) (v := ?vvy6) rfl (by kernel_rfl) (by kernel_rfl) (by kernel_rfl) (fun _ _ _ h => h) (Or.inl ⟨by simp [Region.wanted, yielded], ?yyy6⟩) (by assumption) ?rry6
  case yyy6 => (intro w' hSw; (try dsimp only at hSw); go_simp; (try with_reducible rfl))
  try simp only [Act.put, List.setIfInBounds_toArray, List.set_cons_zero, List.set_cons_succ]
  refine wpAnyH_take (i := 7) (v := ?vvy7) rfl (by kernel_rfl) (by kernel_rfl) (by kernel_rfl) (fun _ _ _ h => h) (Or.inl ⟨by simp [Region.wanted, yielded], ?yyy7⟩) (by assumption) ?rry7
  case yyy7 => (intro w' hSw; (try dsimp only at hSw); go_simp; (try with_reducible rfl))
  try simp only [Act.put, List.setIfInBounds_toArray, List.set_cons_zero, List.set_cons_succ]
  refine wpAnyH_take (i := 8) (v := ?vvy8) rfl (by kernel_rfl) (by kernel_rfl) (by kernel_rfl) (fun _ _ _ h => h) (Or.inl ⟨by simp [Region.wanted, yielded], ?yyy8⟩) (by assumption) ?rry8
  case yyy8 => (intro w' hSw; (try dsimp only at hSw); go_simp; (try with_reducible rfl))
  try simp only [Act.put, List.setIfInBounds_toArray, List.set_cons_zero, List.set_cons_succ]
  refine wpAnyH_ready (rs := [4]) (by kernel_rfl) (by simp) (AllReadyH.cons rfl (fun K hK => ?_) AllReadyH.nil)
  go_simp
  refine (HT.out _ (by exact HMF.out.dr)).mono ?_
  rintro en w5 ⟨rfl, hc5⟩
  dsimp only
  have p0 := kcc hc5 (show W.drew.cell? _ = _ from o0)
  have p1 := kcc hc5 (show W.drew.cell? _ = _ from o1)
  have p2 := kcc hc5 (show W.drew.cell? _ = _ from o2)
  have p3 := kcc hc5 (show W.drew.cell? _ = _ from o3)
  have HMF5 := hid (HMF.out.dr.keep hc5)
  have hrl5 := World.block_lt_of_cell? w5 _ p0
  replace hc5 := hid hc5
  clear hHeld
  refine hK.out _ _ ?hs (fun hHeld => ?_)
  case hs => (first | trivial | ((try dsimp only); go_keep) | ((try dsimp only); simp [*, World.cell?_alloc_some, World.cell?_setCell_far, World.cell?_setCell_other]))
  clear hK K
  try simp only [Act.put, List.setIfInBounds_toArray, List.set_cons_zero, List.set_cons_succ]
  refine wpAnyH_take (i := 9) (v := ?vvy9) rfl (by kernel_rfl) (by kernel_rfl) (by kernel_rfl) (fun _ _ _ h => h) (Or.inl ⟨by simp [Region.wanted, yielded], ?yyy9⟩) (by assumption) ?rry9
  case yyy9 => (intro w' hSw; (try dsimp only at hSw); go_simp; (try with_reducible rfl))
  try simp only [Act.put, List.setIfInBounds_toArray, List.set_cons_zero, List.set_cons_succ]
  refine wpAnyH_take (i := 10) (v := ?vvy10) rfl (by kernel_rfl) (by kernel_rfl) (by kernel_rfl) (fun _ _ _ h => h) (Or.inl ⟨by simp [Region.wanted, yielded], ?yyy10⟩) (by assumption) ?rry10
  case yyy10 => (intro w' hSw; (try dsimp only at hSw); go_simp; (try with_reducible rfl))
  try simp only [Act.put, List.setIfInBounds_toArray, List.set_cons_zero, List.set_cons_succ]
  refine wpAnyH_take (i := 11) (v := ?vvy11) rfl (by kernel_rfl) (by kernel_rfl) (by kernel_rfl) (fun _ _ _ h => h) (Or.inl ⟨by simp [Region.wanted, yielded], ?yyy11⟩) (by assumption) ?rry11
  case yyy11 => (intro w' hSw; (try dsimp only at hSw); go_simp; (try with_reducible rfl))
  try simp only [Act.put, List.setIfInBounds_toArray, List.set_cons_zero, List.set_cons_succ]
  refine wpAnyH_ready (rs := [12]) (by kernel_rfl) (by simp) (AllReadyH.cons rfl (fun K hK => ?_) AllReadyH.nil)
  go_simp
  refine (live_zero w5 mb hb sb fb cb HMF5.out).mono ?_
  rintro en w6 ⟨rfl, hc6⟩
  dsimp only
  have s0 := (hc6.cell (p := ⟨rb, 8, none⟩) hrl5 hne).trans p0
  have s1 := (hc6.cell (p := ⟨rb, 9, none⟩) hrl5 hne).trans p1
  have s2 := (hc6.cell (p := ⟨rb, 10, none⟩) hrl5 hne).trans p2
  have s3 := (hc6.cell (p := ⟨rb, 11, none⟩) hrl5 hne).trans p3
  replace hc6 := hid hc6
  clear hHeld
  refine hK.out _ _ ?hs (fun hHeld => ?_)
  case hs => (first | trivial | ((try dsimp only); go_keep) | ((try dsimp only); simp [*, World.cell?_alloc_some, World.cell?_setCell_far, World.cell?_setCell_other]))
  clear hK K
  try simp only [Act.put, List.setIfInBounds_toArray, List.set_cons_zero, List.set_cons_succ]
  refine wpAnyH_take (i := 13) (v := ?vvy12) rfl (by kernel_rfl) (by kernel_rfl) (by kernel_rfl) (fun _ _ _ h => h) (Or.inl ⟨by simp [Region.wanted, yielded], ?yyy12⟩) (by assumption) ?rry12
  case yyy12 => (intro w' hSw; (try dsimp only at hSw); go_simp; (try with_reducible rfl))
  try simp only [Act.put, List.setIfInBounds_toArray, List.set_cons_zero, List.set_cons_succ]
  refine wpAnyH_take (i := 14) (v := ?vvy13) rfl (by kernel_rfl) (by kernel_rfl) (by kernel_rfl) (fun _ _ _ h => h) (Or.inl ⟨by simp [Region.wanted, yielded], ?yyy13⟩) (by assumption) ?rry13
  case yyy13 => (intro w' hSw; (try dsimp only at hSw); go_simp; (try with_reducible rfl))
  try simp only [Act.put, List.setIfInBounds_toArray, List.set_cons_zero, List.set_cons_succ]
  refine wpAnyH_take (i := 15) (v := ?vvy14) rfl (by kernel_rfl) (by kernel_rfl) (by kernel_rfl) (fun _ _ _ h => h) (Or.inl ⟨by rfl, ?yyy14⟩) (by assumption) ?rry14
  case yyy14 => (intro w' hSw; (try dsimp only at hSw); go_simp; (try with_reducible rfl))
  try simp only [Act.put, List.setIfInBounds_toArray, List.set_cons_zero, List.set_cons_succ]
  refine wpAnyH_take (i := 16) (v := ?vvy15) rfl (by kernel_rfl) (by kernel_rfl) (by kernel_rfl) (fun _ _ _ h => h) (Or.inl ⟨by rfl, ?yyy15⟩) (by assumption) ?rry15
  case yyy15 => (intro w' hSw; (try dsimp only at hSw); go_simp; (try with_reducible rfl))
  try simp only [Act.put, List.setIfInBounds_toArray, List.set_cons_zero, List.set_cons_succ]
  refine wpAnyH_done (by kernel_rfl) ?_ _
  clear hHeld
  go_wp2
  go_ret
  exact ⟨rfl, (chT (chT hcW.out (Ch.refl _ W).dr) hc5.out).trans hc6.out (fun k hk => .inr (by omega))⟩
theorem Loads_any (s : List UInt8) (cells : Int) (w : World) (hg0 : w.cell? ⟨0, 0, none⟩ = some (.iface 214 (.agg #[.pointer (some ⟨1, 74, none⟩)]))) :
    Calls Tryz.prog 3 #[.string ⟨s.toArray⟩, .int .i64 cells] w fun e w' => e = .returned (.bool true) ∧ Ch (fun _ => False) w w' := by
  by_cases h : (ldF s cells).1 = 0
  · obtain ⟨h1, h2, n, rfl, hn⟩ := ldF_ok h
    exact Loads_yes s n hn w hg0 h1 h2
  · exact Loads_no s cells w hg0 h
end Go.Proofs.YtpjbfdpblgjmfaaGreatDoor
