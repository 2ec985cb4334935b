/-
  The program's reader: a function.
-/
import Derived.Test.YticmoofjjikefaaDoorRf5
set_option linter.unusedVariables false
set_option linter.unusedSimpArgs false
namespace Go.Proofs.YticmoofjjikefaaDoor
open Go.RowKit Go.Lib

theorem ins_many (s : List UInt8) : ∀ (n : Nat) (r : Cd.Rd), Cd.Rd.insL s n r = Cd.Rd.manyL (fun r => r.ins s) n r
  | 0, _ => rfl
  | n + 1, r => by
    unfold Cd.Rd.insL Cd.Rd.manyL
    by_cases h : r.fk = 0
    · rw [if_pos h, if_pos h]
      dsimp only
      rw [ins_many s n]
    · rw [if_neg h, if_neg h]
def FunPostP (b : Nat) (s : List UInt8) (W : World) := EPost RFun (fun cs => ∃ (a c : Int) (va : Option Addr) (vn vc : Nat), cs = [.int .i64 a, .int .i64 c, .slice va vn vc]) (fun cs => .agg cs.toArray) b s W
theorem fun_finP {b : Nat} {s : List UInt8} {W w' : World} {q : Cd.Fun × Cd.Rd} {a' : Act} {oB : Nat} {x y : Int} {va : Option Addr} {vn vc : Nat} {ev : Value} (hd : a'.defers = []) (h2 : a'.tmps[2]? = some (.pointer (some ⟨oB, 0, none⟩))) (h3 : a'.tmps[3]? = some ev) (hB : w'.heap[oB]? = some (.cells #[.int .i64 x, .int .i64 y, .slice va vn vc] 62 (0, 0))) (hev : errV q.2 = ev) (hp : PM w' b s q.2.pos) (hg : W.grownBy w' (some b)) (hq : q.2.pos ≤ s.length) (hr : q.2.fk = 0 → q.2.fa = 0 ∧ q.1.free = x ∧ q.1.slots = y ∧ ∃ D, LsM RIns 4 w' D (.slice va vn vc) q.1.ins ∧ ∀ k, D k → W.heap.size ≤ k ∧ k < w'.heap.size ∧ k ≠ b) : bodyPost Tryd.prog Tryd.f25 (FunPostP b s W q) .ret a' w' := by
  have c0 : w'.cell? ⟨oB, 0, none⟩ = some (.int .i64 x) := by simp [World.cell?, hB]
  have c1 : w'.cell? ⟨oB, 1, none⟩ = some (.int .i64 y) := by simp [World.cell?, hB]
  have c2 : w'.cell? ⟨oB, 2, none⟩ = some (.slice va vn vc) := by simp [World.cell?, hB]
  refine bodyPost_ret (v := .tuple #[.agg #[.int .i64 x, .int .i64 y, .slice va vn vc], ev]) ?_ hd ⟨[.int .i64 x, .int .i64 y, .slice va vn vc], ⟨x, y, va, vn, vc, rfl⟩, by rw [hev], hp, hg, hq, fun h => ?_⟩
  · simp [results, Tryd.results25, go_sem, h2, h3, c0, c1, c2]
  · obtain ⟨h1, h2, h3, D, h4, h5⟩ := hr h
    exact ⟨h1, D, ⟨va, vn, vc, by rw [h2, h3], h4⟩, h5⟩
theorem set_same4 {w : World} {o k i j l m : Nat} {x y z u : Value} (h : k ≠ o) : ((((w.setCell ⟨o, i, none⟩ x).setCell ⟨o, j, none⟩ y).setCell ⟨o, l, none⟩ z).setCell ⟨o, m, none⟩ u).heap[k]? = w.heap[k]? := by
  rw [Below.heap_setCell _ _ _ k (by dsimp only; omega), Below.heap_setCell _ _ _ k (by dsimp only; omega), Below.heap_setCell _ _ _ k (by dsimp only; omega), Below.heap_setCell _ _ _ k (by dsimp only; omega)]

set_option maxRecDepth 100000 in
set_option maxHeartbeats 8000000 in
theorem dfunction_c (W : World) (b : Nat) (s : List UInt8) (q : Nat) (h : PM W b s q) (hs : s.length ≤ 4000000) (hq : q ≤ s.length) :
    Calls Tryd.prog 25 #[.pointer (some ⟨b, 0, none⟩)] W (FunPostP b s W (Cd.Rd.fn s (Cd.Rd.at_ q))) := by
  have hbl := h.lt
  have HA := hid (number_c (W.alloc (.cells #[.int .i64 0, .int .i64 0, .slice none 0 0] 62)) b s q 2 (h.al _) hs hq (by omega))
  have hA1 := num_lt2 s q 2 (by omega)
  have hA2 := hid (num_fa s 2 q)
  have hA3 := num_le s 2 q hq
  have sA : Cd.sgn (Cd.Rd.num s 2 (Cd.Rd.at_ q)).1 = ((Cd.Rd.num s 2 (Cd.Rd.at_ q)).1 : Int) := Cd.sgn_small (by omega)
  rw [sA] at HA
  have HG : Hid (Cd.Rd.fn s (Cd.Rd.at_ q) = (⟨(Cd.Rd.num s 2 (Cd.Rd.at_ q)).1, ((Cd.Rd.num s 2 (Cd.Rd.at_ q)).2.num s 2).1, (Cd.Rd.manyL (fun r => r.ins s) (((Cd.Rd.num s 2 (Cd.Rd.at_ q)).2.num s 2).2.num s 2).1 (((Cd.Rd.num s 2 (Cd.Rd.at_ q)).2.num s 2).2.num s 2).2).1⟩, (Cd.Rd.manyL (fun r => r.ins s) (((Cd.Rd.num s 2 (Cd.Rd.at_ q)).2.num s 2).2.num s 2).1 (((Cd.Rd.num s 2 (Cd.Rd.at_ q)).2.num s 2).2.num s 2).2).2)) := by
    rw [Hid]
    unfold Cd.Rd.fn
    dsimp only
    rw [ins_many]
  have hB0 : (W.alloc (.cells #[.int .i64 0, .int .i64 0, .slice none 0 0] 62)).heap[W.heap.size]? = some (.cells #[.int .i64 0, .int .i64 0, .slice none 0 0] 62 (0, 0)) := World.alloc_heap_new W _
  clear h sA
  generalize Cd.Rd.num s 2 (Cd.Rd.at_ q) = ar at HA hA1 hA2 hA3 HG
  obtain ⟨A, rA⟩ := ar
  dsimp only at HA hA1 hA2 hA3 HG
  unfold ptrV NmPost at HA
  by_cases hrA : rA.fk = 0
  · rw [errV_ok hrA] at HA
    have erA := hA2.out hrA
    have erA2 : Cd.Rd.at_ rA.pos = rA := by rw [erA]; rfl
    have HBn := hid (fun (V : World) (hv : PM V b s rA.pos) => number_c V b s rA.pos 2 hv hs hA3 (by omega))
    have hB1' := num_lt2 s rA.pos 2 (by omega)
    have hB2' := hid (num_fa s 2 rA.pos)
    have hB3' := num_le s 2 rA.pos hA3
    have sB : Cd.sgn (Cd.Rd.num s 2 (Cd.Rd.at_ rA.pos)).1 = ((Cd.Rd.num s 2 (Cd.Rd.at_ rA.pos)).1 : Int) := Cd.sgn_small (by omega)
    rw [sB] at HBn
    rw [← erA2] at HG
    clear sB
    generalize Cd.Rd.num s 2 (Cd.Rd.at_ rA.pos) = br at HBn hB1' hB2' hB3' HG
    obtain ⟨B, rB⟩ := br
    dsimp only at HBn hB1' hB2' hB3' HG
    unfold ptrV NmPost at HBn
    replace erA := hid erA
    replace erA2 := hid erA2
    by_cases hrB : rB.fk = 0
    · rw [errV_ok hrB] at HBn
      have erB := hB2'.out hrB
      have erB2 : Cd.Rd.at_ rB.pos = rB := by rw [erB]; rfl
      have HF := hid (fun (V : World) (hv : PM V b s rB.pos) => list_ins V b s rB.pos 2 RIns (fun r => r.ins s) RIns.ok hv hs hB3' (by omega) (fun V2 q2 h2 hq2 => dinstr_c V2 b s q2 h2 hs hq2))
      rw [erB2] at HF
      generalize Cd.Rd.manyL (fun r => r.ins s) (Cd.Rd.num s 2 rB).1 (Cd.Rd.num s 2 rB).2 = fr at HF HG
      obtain ⟨o, r2⟩ := fr
      dsimp only at HG
      unfold ptrV LPost at HF
      dsimp only at HF
      replace erB := hid erB
      replace erB2 := hid erB2
      go_enter Tryd.func25, Tryd.ntmps25
      go_wp2_with (first
        | (go_at_call 40; refine HA.out.mono ?_; clear HA; rintro en w1 ⟨rfl, h1, hg1⟩
           have hB1 := (hg1.block W.heap.size (by simp) (by simp; omega)).trans hB0
           have k0 : w1.cell? ⟨W.heap.size, 0, none⟩ = some (.int .i64 0) := by simp [World.cell?, hB1]
           have k1 : w1.cell? ⟨W.heap.size, 1, none⟩ = some (.int .i64 0) := by simp [World.cell?, hB1]
           have k2 : w1.cell? ⟨W.heap.size, 2, none⟩ = some (.slice none 0 0) := by simp [World.cell?, hB1]
           have kf : ∀ i, w1.frozen? ⟨W.heap.size, i, none⟩ = false := fun i => by simp [World.frozen?, hB1]
           replace h1 := hid h1
           replace hg1 := hid (grown_trans (grown_alloc (grown_refl W (some b)) _) hg1)
           replace hB1 := hid (blk_set (i := 0) (v := .int .i64 (A : Int)) hB1))
        | (go_at_call 40; refine (HBn.out _ (h1.out.far (by omega))).mono ?_; clear HBn; rintro en w2 ⟨rfl, h2, hg2⟩
           have hB2 := (hg2.block W.heap.size (Array.getElem?_eq_some_iff.1 hB1.out).1 (by simp; omega)).trans hB1.out
           have j0 : w2.cell? ⟨W.heap.size, 0, none⟩ = some (.int .i64 (A : Int)) := by simp [World.cell?, hB2]
           have j1 : w2.cell? ⟨W.heap.size, 1, none⟩ = some (.int .i64 0) := by simp [World.cell?, hB2]
           have j2 : w2.cell? ⟨W.heap.size, 2, none⟩ = some (.slice none 0 0) := by simp [World.cell?, hB2]
           have jf : ∀ i, w2.frozen? ⟨W.heap.size, i, none⟩ = false := fun i => by simp [World.frozen?, hB2]
           replace h2 := hid h2
           replace hg2 := hid (grown_trans (grown_newc hg1.out (Nat.le_refl _)) hg2)
           replace hB2 := hid (blk_set (i := 1) (v := .int .i64 (B : Int)) hB2))
        | (go_at_call 46; refine (HF.out _ (h2.out.far (by omega))).mono ?_; clear HF; rintro en w3 ⟨va, vn, vc, rfl, h3, hg3, hq3, hd3⟩
           have hl3 := (Array.getElem?_eq_some_iff.1 hB2.out).1
           have hB3 := (hg3.block W.heap.size hl3 (by simp; omega)).trans hB2.out
           have m0 : w3.cell? ⟨W.heap.size, 0, none⟩ = some (.int .i64 (A : Int)) := by simp [World.cell?, hB3]
           have m1 : w3.cell? ⟨W.heap.size, 1, none⟩ = some (.int .i64 (B : Int)) := by simp [World.cell?, hB3]
           have m2 : w3.cell? ⟨W.heap.size, 2, none⟩ = some (.slice none 0 0) := by simp [World.cell?, hB3]
           have mf : ∀ i, w3.frozen? ⟨W.heap.size, i, none⟩ = false := fun i => by simp [World.frozen?, hB3]
           generalize hev : errV r2 = ev
           replace hev := hid hev
           replace h3 := hid h3
           replace hg3 := hid (grown_trans (grown_newc hg2.out (Nat.le_refl _)) hg3)
           replace hd3 := hid hd3
           replace hl3 := hid hl3
           replace hB3 := hid hB3)
        | go_in)
      rw [HG.out]
      refine fun_finP (x := A) (y := B) (va := va) (vn := vn) (vc := vc) (oB := W.heap.size) rfl rfl rfl ?_ hev.out ((((h3.out.far (by omega)).far (by omega)).far (by omega)).far (by omega)) (grown_newc (grown_newc (grown_newc (grown_newc hg3.out (Nat.le_refl _)) (Nat.le_refl _)) (Nat.le_refl _)) (Nat.le_refl _)) hq3 (fun h => ?_)
      · exact blk_set (blk_set (blk_set (blk_set hB3.out)))
      · obtain ⟨a1, D, a2, a3⟩ := hd3.out h
        have hl3' := hl3.out
        simp at hl3'
        refine ⟨a1, rfl, rfl, D, a2.keep RIns.ok (fun k hk => set_same4 ?_) (fun _ h => h), fun k hk => ?_⟩
        · have := (a3 k hk).1
          simp at this
          omega
        · obtain ⟨b1, b2, b3⟩ := a3 k hk
          simp at b1
          exact ⟨by omega, by simpa using b2, b3⟩
    · rw [errV_no hrB] at HBn
      rw [bad_num' hrB] at HG
      go_enter Tryd.func25, Tryd.ntmps25
      go_wp2_with (first
        | (go_at_call 40; refine HA.out.mono ?_; clear HA; rintro en w1 ⟨rfl, h1, hg1⟩
           have hB1 := (hg1.block W.heap.size (by simp) (by simp; omega)).trans hB0
           have k0 : w1.cell? ⟨W.heap.size, 0, none⟩ = some (.int .i64 0) := by simp [World.cell?, hB1]
           have k1 : w1.cell? ⟨W.heap.size, 1, none⟩ = some (.int .i64 0) := by simp [World.cell?, hB1]
           have k2 : w1.cell? ⟨W.heap.size, 2, none⟩ = some (.slice none 0 0) := by simp [World.cell?, hB1]
           have kf : ∀ i, w1.frozen? ⟨W.heap.size, i, none⟩ = false := fun i => by simp [World.frozen?, hB1]
           replace h1 := hid h1
           replace hg1 := hid (grown_trans (grown_alloc (grown_refl W (some b)) _) hg1)
           replace hB1 := hid (blk_set (i := 0) (v := .int .i64 (A : Int)) hB1))
        | (go_at_call 40; refine (HBn.out _ (h1.out.far (by omega))).mono ?_; clear HBn; rintro en w2 ⟨rfl, h2, hg2⟩
           have hB2 := (hg2.block W.heap.size (Array.getElem?_eq_some_iff.1 hB1.out).1 (by simp; omega)).trans hB1.out
           have j0 : w2.cell? ⟨W.heap.size, 0, none⟩ = some (.int .i64 (A : Int)) := by simp [World.cell?, hB2]
           have j1 : w2.cell? ⟨W.heap.size, 1, none⟩ = some (.int .i64 0) := by simp [World.cell?, hB2]
           have j2 : w2.cell? ⟨W.heap.size, 2, none⟩ = some (.slice none 0 0) := by simp [World.cell?, hB2]
           have jf : ∀ i, w2.frozen? ⟨W.heap.size, i, none⟩ = false := fun i => by simp [World.frozen?, hB2]
           replace h2 := hid h2
           replace hg2 := hid (grown_trans (grown_newc hg1.out (Nat.le_refl _)) hg2)
           replace hB2 := hid hB2)
        | go_in)
      rw [HG.out]
      refine fun_finP (x := A) (y := B) (va := none) (vn := 0) (vc := 0) (oB := W.heap.size) rfl rfl rfl ?_ (errV_no hrB) ((((h2.out.far (by omega)).far (by omega)).far (by omega)).far (by omega)) (grown_newc (grown_newc (grown_newc (grown_newc hg2.out (Nat.le_refl _)) (Nat.le_refl _)) (Nat.le_refl _)) (Nat.le_refl _)) hB3' (fun h => absurd h hrB)
      exact blk_set (blk_set (blk_set (blk_set hB2.out)))
  · rw [errV_no hrA] at HA
    rw [bad_num' hrA] at HG
    dsimp only at HG
    rw [bad_num' hrA] at HG
    go_enter Tryd.func25, Tryd.ntmps25
    go_wp2_with (first
      | (go_at_call 40; refine HA.out.mono ?_; clear HA; rintro en w1 ⟨rfl, h1, hg1⟩
         have hB1 := (hg1.block W.heap.size (by simp) (by simp; omega)).trans hB0
         have k0 : w1.cell? ⟨W.heap.size, 0, none⟩ = some (.int .i64 0) := by simp [World.cell?, hB1]
         have k1 : w1.cell? ⟨W.heap.size, 1, none⟩ = some (.int .i64 0) := by simp [World.cell?, hB1]
         have k2 : w1.cell? ⟨W.heap.size, 2, none⟩ = some (.slice none 0 0) := by simp [World.cell?, hB1]
         have kf : ∀ i, w1.frozen? ⟨W.heap.size, i, none⟩ = false := fun i => by simp [World.frozen?, hB1]
         replace h1 := hid h1
         replace hg1 := hid (grown_trans (grown_alloc (grown_refl W (some b)) _) hg1)
         replace hB1 := hid hB1)
      | go_in)
    rw [HG.out]
    refine fun_finP (x := A) (y := 0) (va := none) (vn := 0) (vc := 0) (oB := W.heap.size) rfl rfl rfl ?_ (errV_no hrA) ((((h1.out.far (by omega)).far (by omega)).far (by omega)).far (by omega)) (grown_newc (grown_newc (grown_newc (grown_newc hg1.out (Nat.le_refl _)) (Nat.le_refl _)) (Nat.le_refl _)) (Nat.le_refl _)) hA3 (fun h => absurd h hrA)
    exact blk_set (blk_set (blk_set (blk_set hB1.out)))
end Go.Proofs.YticmoofjjikefaaDoor
