/-
  The program's reader: an instruction.
-/
import Derived.Test.YtpjbfdpblgjmfaaGreatDoorMI
set_option linter.unusedVariables false
set_option linter.unusedSimpArgs false
namespace Go.Proofs.YtpjbfdpblgjmfaaGreatDoor
open Go.RowKit Go.Lib

theorem PM.dr {w : World} {b : Nat} {s : List UInt8} {p : Nat} (h : PM w b s p) : PM w.drew b s p := h
theorem blk_dr {w : World} {o : Nat} {x : Option Obj} (h : w.heap[o]? = x) : w.drew.heap[o]? = x := h
set_option maxRecDepth 100000 in
set_option maxHeartbeats 8000000 in
theorem dinstr_c (W : World) (b : Nat) (s : List UInt8) (q : Nat) (h : PM W b s q) (hs : s.length ≤ 4000000) (hq : q ≤ s.length) :
    Calls Tryz.prog 90 #[.pointer (some ⟨b, 0, none⟩)] W (InsPost b s W (Cd.Rd.ins s (Cd.Rd.at_ q))) := by
  have hbl := h.lt
  have HN := hid (number_c (W.alloc (.cells #[.int .i64 0, .int .i64 0, .int .i64 0, .int .i64 0] 123)) b s q 1 (h.al _) hs hq (by omega))
  have hlt := Cd.num_one_lt s (Cd.Rd.at_ q)
  have HS : Hid (Cd.sgn (Cd.Rd.num s 1 (Cd.Rd.at_ q)).1 = ((Cd.Rd.num s 1 (Cd.Rd.at_ q)).1 : Int)) := Cd.sgn_small (by omega)
  rw [HS.out] at HN
  unfold NmPost at HN
  have hok := hid (num_fa s 1 q)
  have hbd := hid (num_bad s 1 q)
  have hle := num_le s 1 q hq
  have HG : Hid (Cd.Rd.ins s (Cd.Rd.at_ q) = if (Cd.Rd.num s 1 (Cd.Rd.at_ q)).2.fk = 0 ∧ 23 ≤ (Cd.Rd.num s 1 (Cd.Rd.at_ q)).1 then (⟨0, 0, 0, 0⟩, (Cd.Rd.num s 1 (Cd.Rd.at_ q)).2.no 15 ((Cd.Rd.num s 1 (Cd.Rd.at_ q)).2.pos - 1))
      else (if Cd.form (Cd.Rd.num s 1 (Cd.Rd.at_ q)).1 = 8 then ((⟨(Cd.Rd.num s 1 (Cd.Rd.at_ q)).1, 0, 0, Cd.sgn ((Cd.Rd.num s 1 (Cd.Rd.at_ q)).2.num s 8).1⟩ : Cd.Ins), ((Cd.Rd.num s 1 (Cd.Rd.at_ q)).2.num s 8).2)
      else if Cd.form (Cd.Rd.num s 1 (Cd.Rd.at_ q)).1 = 1 then (⟨(Cd.Rd.num s 1 (Cd.Rd.at_ q)).1, ((Cd.Rd.num s 1 (Cd.Rd.at_ q)).2.num s 2).1, 0, 0⟩, ((Cd.Rd.num s 1 (Cd.Rd.at_ q)).2.num s 2).2)
      else if Cd.form (Cd.Rd.num s 1 (Cd.Rd.at_ q)).1 = 2 then (⟨(Cd.Rd.num s 1 (Cd.Rd.at_ q)).1, ((Cd.Rd.num s 1 (Cd.Rd.at_ q)).2.num s 2).1, (((Cd.Rd.num s 1 (Cd.Rd.at_ q)).2.num s 2).2.num s 2).1, 0⟩, (((Cd.Rd.num s 1 (Cd.Rd.at_ q)).2.num s 2).2.num s 2).2)
      else (⟨(Cd.Rd.num s 1 (Cd.Rd.at_ q)).1, 0, 0, 0⟩, (Cd.Rd.num s 1 (Cd.Rd.at_ q)).2))) := rfl
  have hB0 : (W.alloc (.cells #[.int .i64 0, .int .i64 0, .int .i64 0, .int .i64 0] 123)).heap[W.heap.size]? = some (.cells #[.int .i64 0, .int .i64 0, .int .i64 0, .int .i64 0] 123 (0, 0)) := World.alloc_heap_new W _
  obtain ⟨p0, p1, _⟩ := (h.al (.cells #[.int .i64 0, .int .i64 0, .int .i64 0, .int .i64 0] 123)).cells
  clear h HS
  generalize Cd.Rd.num s 1 (Cd.Rd.at_ q) = tr at HN hok hbd hle HG hlt
  obtain ⟨v, r⟩ := tr
  dsimp only at HN hok hbd hle HG hlt
  unfold ptrV at HN
  by_cases hr : r.fk = 0
  · obtain rfl := hok.out hr
    rw [errV_ok hr] at HN
    by_cases hv : 23 ≤ v
    · have HP : Hid (Cd.Rd.ins s (Cd.Rd.at_ q) = (⟨0, 0, 0, 0⟩, ⟨q + 1, 15, q⟩)) := by
        rw [Hid, HG.out, if_pos ⟨hr, hv⟩]
        rfl
      have hop : Cd.fits (v : Int) 22 = false := by unfold Cd.fits; simp; omega
      clear HG hr
      go_enter Tryz.func90, Tryz.ntmps90
      go_upto_region 6 with (first
        | (go_at_call 83; refine (HN.out).mono ?_; clear HN; rintro en w1 ⟨rfl, h1, hg1⟩
           have hB1 := (hg1.block W.heap.size (by simp) (by simp; omega)).trans hB0
           have k0 : w1.cell? ⟨W.heap.size, 0, none⟩ = some (.int .i64 0) := by simp [World.cell?, hB1]
           have k1 : w1.cell? ⟨W.heap.size, 1, none⟩ = some (.int .i64 0) := by simp [World.cell?, hB1]
           have k2 : w1.cell? ⟨W.heap.size, 2, none⟩ = some (.int .i64 0) := by simp [World.cell?, hB1]
           have k3 : w1.cell? ⟨W.heap.size, 3, none⟩ = some (.int .i64 0) := by simp [World.cell?, hB1]
           have kf : ∀ i, w1.frozen? ⟨W.heap.size, i, none⟩ = false := fun i => by simp [World.frozen?, hB1]
           replace h1 := hid h1
           replace hg1 := hid (grown_trans (grown_alloc (grown_refl W (some b)) _) hg1)
           replace hB1 := hid (blk_set (i := 0) (v := .int .i64 (v : Int)) hB1))
        | (go_at_call 95; refine (isOp_any _ _).mono ?_; rintro en w9 ⟨rfl, hw9⟩; obtain rfl := hw9.symm; rw [hop])
        | go_in)
      refine wp_region_held_drew (S := (fun _ => True)) (by kernel_rfl) (by first | trivial | ((try dsimp only); go_keep)) (fun hHeld => ?_)
      refine wpAnyH_take (i := 1) (v := ?vvi1) rfl (by kernel_rfl) (by kernel_rfl) (by kernel_rfl) (fun _ _ _ h => h) (Or.inl ⟨by rfl, ?yyi1⟩) (by assumption) ?rri1
      case yyi1 => (intro w' hSw; (try dsimp only at hSw); go_simp; (try with_reducible rfl))
      try simp only [Act.put, List.setIfInBounds_toArray, List.set_cons_zero, List.set_cons_succ]
      refine wpAnyH_ready (rs := [0, 2]) (by kernel_rfl) (by simp) (AllReadyH.cons rfl (fun K hK => ?_) (AllReadyH.cons rfl (fun K hK => ?_) AllReadyH.nil))
      · go_simp
        skip
        clear hHeld
        refine hK.out _ _ ?hs (fun hHeld => ?_)
        case hs => (first | trivial | ((try dsimp only); go_keep) | ((try dsimp only); simp [*, World.cell?_alloc_some, World.cell?_setCell_far, World.cell?_setCell_other]))
        clear hK K
        try simp only [Act.put, List.setIfInBounds_toArray, List.set_cons_zero, List.set_cons_succ]
        refine wpAnyH_ready (rs := [2]) (by kernel_rfl) (by simp) (AllReadyH.cons rfl (fun K hK => ?_) AllReadyH.nil)
        go_simp
        refine (broken_c _ _ _).mono ?_
        rintro en w9 ⟨rfl, hw9⟩
        obtain rfl := hw9.symm
        dsimp only
        clear hHeld
        refine hK.out _ _ ?hs (fun hHeld => ?_)
        case hs => (first | trivial | ((try dsimp only); go_keep) | ((try dsimp only); simp [*, World.cell?_alloc_some, World.cell?_setCell_far, World.cell?_setCell_other]))
        clear hK K
        try simp only [Act.put, List.setIfInBounds_toArray, List.set_cons_zero, List.set_cons_succ]
        refine wpAnyH_ready (rs := [3]) (by kernel_rfl) (by simp) (AllReadyH.cons rfl (fun K hK => ?_) AllReadyH.nil)
        go_simp
        skip
        clear hHeld
        refine hK.out _ _ ?hs (fun hHeld => ?_)
        case hs => (first | trivial | ((try dsimp only); go_keep) | ((try dsimp only); simp [*, World.cell?_alloc_some, World.cell?_setCell_far, World.cell?_setCell_other]))
        clear hK K
        try simp only [Act.put, List.setIfInBounds_toArray, List.set_cons_zero, List.set_cons_succ]
        refine wpAnyH_take (i := 4) (v := ?vvi2) rfl (by kernel_rfl) (by kernel_rfl) (by kernel_rfl) (fun _ _ _ h => h) (Or.inl ⟨by rfl, ?yyi2⟩) (by assumption) ?rri2
        case yyi2 => (intro w' hSw; (try dsimp only at hSw); go_simp; (try with_reducible rfl))
        try simp only [Act.put, List.setIfInBounds_toArray, List.set_cons_zero, List.set_cons_succ]
        refine wpAnyH_done (by kernel_rfl) ?_ _
        clear hHeld
        go_wp2
        rw [HP.out]
        exact ins_finP (x := ⟨(v : Int), 0, 0, 0⟩) (oB := W.heap.size) rfl rfl rfl (blk_dr (blk_set (blk_set (blk_set (blk_set hB1.out))))) (by rw [errV_no (by simp)]; rfl) (PM.dr (PM.far (PM.far (PM.far (PM.far (PM.far h1.out (by omega)) (by omega)) (by omega)) (by omega)) (by omega))) (grown_drew (grown_newc (grown_newc (grown_newc (grown_newc (grown_newc hg1.out (Nat.le_refl _)) (Nat.le_refl _)) (Nat.le_refl _)) (Nat.le_refl _)) (Nat.le_refl _))) hle (fun h => by simp at h)
      · go_simp
        refine (broken_c _ _ _).mono ?_
        rintro en w9 ⟨rfl, hw9⟩
        obtain rfl := hw9.symm
        dsimp only
        clear hHeld
        refine hK.out _ _ ?hs (fun hHeld => ?_)
        case hs => (first | trivial | ((try dsimp only); go_keep) | ((try dsimp only); simp [*, World.cell?_alloc_some, World.cell?_setCell_far, World.cell?_setCell_other]))
        clear hK K
        try simp only [Act.put, List.setIfInBounds_toArray, List.set_cons_zero, List.set_cons_succ]
        refine wpAnyH_ready (rs := [0]) (by kernel_rfl) (by simp) (AllReadyH.cons rfl (fun K hK => ?_) AllReadyH.nil)
        go_simp
        skip
        clear hHeld
        refine hK.out _ _ ?hs (fun hHeld => ?_)
        case hs => (first | trivial | ((try dsimp only); go_keep) | ((try dsimp only); simp [*, World.cell?_alloc_some, World.cell?_setCell_far, World.cell?_setCell_other]))
        clear hK K
        try simp only [Act.put, List.setIfInBounds_toArray, List.set_cons_zero, List.set_cons_succ]
        refine wpAnyH_ready (rs := [3]) (by kernel_rfl) (by simp) (AllReadyH.cons rfl (fun K hK => ?_) AllReadyH.nil)
        go_simp
        skip
        clear hHeld
        refine hK.out _ _ ?hs (fun hHeld => ?_)
        case hs => (first | trivial | ((try dsimp only); go_keep) | ((try dsimp only); simp [*, World.cell?_alloc_some, World.cell?_setCell_far, World.cell?_setCell_other]))
        clear hK K
        try simp only [Act.put, List.setIfInBounds_toArray, List.set_cons_zero, List.set_cons_succ]
        refine wpAnyH_take (i := 4) (v := ?vvi3) rfl (by kernel_rfl) (by kernel_rfl) (by kernel_rfl) (fun _ _ _ h => h) (Or.inl ⟨by rfl, ?yyi3⟩) (by assumption) ?rri3
        case yyi3 => (intro w' hSw; (try dsimp only at hSw); go_simp; (try with_reducible rfl))
        try simp only [Act.put, List.setIfInBounds_toArray, List.set_cons_zero, List.set_cons_succ]
        refine wpAnyH_done (by kernel_rfl) ?_ _
        clear hHeld
        go_wp2
        rw [HP.out]
        exact ins_finP (x := ⟨(v : Int), 0, 0, 0⟩) (oB := W.heap.size) rfl rfl rfl (blk_dr (blk_set (blk_set (blk_set (blk_set hB1.out))))) (by rw [errV_no (by simp)]; rfl) (PM.dr (PM.far (PM.far (PM.far (PM.far (PM.far h1.out (by omega)) (by omega)) (by omega)) (by omega)) (by omega))) (grown_drew (grown_newc (grown_newc (grown_newc (grown_newc (grown_newc hg1.out (Nat.le_refl _)) (Nat.le_refl _)) (Nat.le_refl _)) (Nat.le_refl _)) (Nat.le_refl _))) hle (fun h => by simp at h)
    · have hop : Cd.fits (v : Int) 22 = true := by unfold Cd.fits; simp; omega
      have hch := ins_chain s (q + 1) v hle
      have HP0 : Hid (Cd.Rd.ins s (Cd.Rd.at_ q) = (⟨v, (insA s (q + 1) v).1, (insBb s (q + 1) v).1, Cd.sgn (insN s (q + 1) v).1⟩, (insN s (q + 1) v).2)) := by
        rw [Hid, HG.out, if_neg (fun h => hv h.2)]
        exact hch
      have wA : Cd.wa v ≤ 2 := by unfold Cd.wa; split <;> omega
      have wB : Cd.wb v ≤ 2 := by unfold Cd.wb; split <;> omega
      have wN : Cd.wn v ≤ 8 := by unfold Cd.wn; split <;> omega
      have HW := hid (fun V : World => widths_any (v : Int) V)
      have HA := hid (fun (V : World) (hv : PM V b s (q + 1)) => number_c V b s (q + 1) (Cd.wa v) hv hs hle (by omega))
      have hA1 := num_lt2 s (q + 1) (Cd.wa v) wA
      have hA2 := hid (num_fa s (Cd.wa v) (q + 1))
      have hA3 := num_le s (Cd.wa v) (q + 1) hle
      have sA : Cd.sgn (Cd.Rd.num s (Cd.wa v) (Cd.Rd.at_ (q + 1))).1 = ((Cd.Rd.num s (Cd.wa v) (Cd.Rd.at_ (q + 1))).1 : Int) := Cd.sgn_small (by omega)
      rw [sA] at HA
      have eB : Hid (insBb s (q + 1) v = (Cd.Rd.num s (Cd.wa v) (Cd.Rd.at_ (q + 1))).2.num s (Cd.wb v)) := rfl
      have eN : Hid (insN s (q + 1) v = (insBb s (q + 1) v).2.num s (Cd.wn v)) := rfl
      have eA : Hid (insA s (q + 1) v = Cd.Rd.num s (Cd.wa v) (Cd.Rd.at_ (q + 1))) := rfl
      rw [eA.out] at HP0
      clear sA HG hch eA
      generalize Cd.Rd.num s (Cd.wa v) (Cd.Rd.at_ (q + 1)) = ar at HA hA1 hA2 hA3 eB HP0
      obtain ⟨A, rA⟩ := ar
      dsimp only at HA hA1 hA2 hA3 eB HP0
      unfold ptrV NmPost at HA
      by_cases hrA : rA.fk = 0
      · rw [errV_ok hrA] at HA
        have erA := hA2.out hrA
        have hpA : rA.pos = q + 1 + Cd.wa v := by rw [erA]; rfl
        have HBn := hid (fun (V : World) (hv : PM V b s rA.pos) => number_c V b s rA.pos (Cd.wb v) hv hs hA3 (by omega))
        have hB1' := num_lt2 s rA.pos (Cd.wb v) wB
        have hB2' := hid (num_fa s (Cd.wb v) rA.pos)
        have hB3' := num_le s (Cd.wb v) rA.pos hA3
        have erA2 : Cd.Rd.at_ rA.pos = rA := by rw [erA]; rfl
        have sB : Cd.sgn (Cd.Rd.num s (Cd.wb v) (Cd.Rd.at_ rA.pos)).1 = ((Cd.Rd.num s (Cd.wb v) (Cd.Rd.at_ rA.pos)).1 : Int) := Cd.sgn_small (by omega)
        rw [sB] at HBn
        rw [← erA2] at eB
        rw [eB.out] at HP0 eN
        clear sB eB
        generalize Cd.Rd.num s (Cd.wb v) (Cd.Rd.at_ rA.pos) = br at HBn hB1' hB2' hB3' HP0 eN
        obtain ⟨B, rB⟩ := br
        dsimp only at HBn hB1' hB2' hB3' HP0 eN
        unfold ptrV NmPost at HBn
        replace erA := hid erA
        replace erA2 := hid erA2
        replace hpA := hid hpA
        by_cases hrB : rB.fk = 0
        · rw [errV_ok hrB] at HBn
          have erB := hB2'.out hrB
          have erB2 : Cd.Rd.at_ rB.pos = rB := by rw [erB]; rfl
          have HNn := hid (fun (V : World) (hv : PM V b s rB.pos) => number_c V b s rB.pos (Cd.wn v) hv hs hB3' (by omega))
          have hN2 := hid (num_fa s (Cd.wn v) rB.pos)
          have hN3 := num_le s (Cd.wn v) rB.pos hB3'
          rw [← erB2] at eN
          rw [eN.out] at HP0
          clear eN
          generalize Cd.Rd.num s (Cd.wn v) (Cd.Rd.at_ rB.pos) = nr at HNn hN2 hN3 HP0
          obtain ⟨N, rN⟩ := nr
          dsimp only at HNn hN2 hN3 HP0
          unfold ptrV NmPost at HNn
          replace erB := hid erB
          replace erB2 := hid erB2
          clear hB2' hA2
          generalize Cd.wa (v : Int) = ka at *
          generalize Cd.wb (v : Int) = kb at *
          generalize Cd.wn (v : Int) = kn at *
          go_enter Tryz.func90, Tryz.ntmps90
          go_wp2_with (first
            | (go_at_call 83; refine (HN.out).mono ?_; clear HN; rintro en w1 ⟨rfl, h1, hg1⟩
               have hB1 := (hg1.block W.heap.size (by simp) (by simp; omega)).trans hB0
               have k0 : w1.cell? ⟨W.heap.size, 0, none⟩ = some (.int .i64 0) := by simp [World.cell?, hB1]
               have k1 : w1.cell? ⟨W.heap.size, 1, none⟩ = some (.int .i64 0) := by simp [World.cell?, hB1]
               have k2 : w1.cell? ⟨W.heap.size, 2, none⟩ = some (.int .i64 0) := by simp [World.cell?, hB1]
               have k3 : w1.cell? ⟨W.heap.size, 3, none⟩ = some (.int .i64 0) := by simp [World.cell?, hB1]
               have kf : ∀ i, w1.frozen? ⟨W.heap.size, i, none⟩ = false := fun i => by simp [World.frozen?, hB1]
               replace h1 := hid h1
               replace hg1 := hid (grown_trans (grown_alloc (grown_refl W (some b)) _) hg1)
               replace hB1 := hid (blk_set (i := 0) (v := .int .i64 (v : Int)) hB1))
            | (go_at_call 95; refine (isOp_any _ _).mono ?_; rintro en w9 ⟨rfl, hw9⟩; obtain rfl := hw9.symm; rw [hop])
            | (go_at_call 104; refine (HW.out _).mono ?_; clear HW; rintro en w9 ⟨rfl, hw9⟩; obtain rfl := hw9.symm; dsimp only)
            | (go_at_call 83; refine (HA.out _ (h1.out.far (by omega))).mono ?_; clear HA; rintro en w2 ⟨rfl, h2, hg2⟩
               have hB2 := (hg2.block W.heap.size (Array.getElem?_eq_some_iff.1 hB1.out).1 (by simp; omega)).trans hB1.out
               have j0 : w2.cell? ⟨W.heap.size, 0, none⟩ = some (.int .i64 (v : Int)) := by simp [World.cell?, hB2]
               have j1 : w2.cell? ⟨W.heap.size, 1, none⟩ = some (.int .i64 0) := by simp [World.cell?, hB2]
               have j2 : w2.cell? ⟨W.heap.size, 2, none⟩ = some (.int .i64 0) := by simp [World.cell?, hB2]
               have j3 : w2.cell? ⟨W.heap.size, 3, none⟩ = some (.int .i64 0) := by simp [World.cell?, hB2]
               have jf : ∀ i, w2.frozen? ⟨W.heap.size, i, none⟩ = false := fun i => by simp [World.frozen?, hB2]
               replace h2 := hid h2
               replace hg2 := hid (grown_trans (grown_newc hg1.out (Nat.le_refl _)) hg2)
               replace hB2 := hid (blk_set (i := 1) (v := .int .i64 (A : Int)) hB2))
            | (go_at_call 83; refine (HBn.out _ (h2.out.far (by omega))).mono ?_; clear HBn; rintro en w3 ⟨rfl, h3, hg3⟩
               have hB3 := (hg3.block W.heap.size (Array.getElem?_eq_some_iff.1 hB2.out).1 (by simp; omega)).trans hB2.out
               have m0 : w3.cell? ⟨W.heap.size, 0, none⟩ = some (.int .i64 (v : Int)) := by simp [World.cell?, hB3]
               have m1 : w3.cell? ⟨W.heap.size, 1, none⟩ = some (.int .i64 (A : Int)) := by simp [World.cell?, hB3]
               have m2 : w3.cell? ⟨W.heap.size, 2, none⟩ = some (.int .i64 0) := by simp [World.cell?, hB3]
               have m3 : w3.cell? ⟨W.heap.size, 3, none⟩ = some (.int .i64 0) := by simp [World.cell?, hB3]
               have mf : ∀ i, w3.frozen? ⟨W.heap.size, i, none⟩ = false := fun i => by simp [World.frozen?, hB3]
               replace h3 := hid h3
               replace hg3 := hid (grown_trans (grown_newc hg2.out (Nat.le_refl _)) hg3)
               replace hB3 := hid (blk_set (i := 2) (v := .int .i64 (B : Int)) hB3))
            | (go_at_call 83; refine (HNn.out _ (h3.out.far (by omega))).mono ?_; clear HNn; rintro en w4 ⟨rfl, h4, hg4⟩
               have hB4 := (hg4.block W.heap.size (Array.getElem?_eq_some_iff.1 hB3.out).1 (by simp; omega)).trans hB3.out
               generalize hev : errV rN = ev
               replace hev := hid hev
               have n0 : w4.cell? ⟨W.heap.size, 0, none⟩ = some (.int .i64 (v : Int)) := by simp [World.cell?, hB4]
               have n1 : w4.cell? ⟨W.heap.size, 1, none⟩ = some (.int .i64 (A : Int)) := by simp [World.cell?, hB4]
               have n2 : w4.cell? ⟨W.heap.size, 2, none⟩ = some (.int .i64 (B : Int)) := by simp [World.cell?, hB4]
               have n3 : w4.cell? ⟨W.heap.size, 3, none⟩ = some (.int .i64 0) := by simp [World.cell?, hB4]
               have nf : ∀ i, w4.frozen? ⟨W.heap.size, i, none⟩ = false := fun i => by simp [World.frozen?, hB4]
               replace h4 := hid h4
               replace hg4 := hid (grown_trans (grown_newc hg3.out (Nat.le_refl _)) hg4)
               replace hB4 := hid (blk_set (i := 3) (v := .int .i64 (Cd.sgn N)) hB4))
            | go_in)
          rw [HP0.out]
          exact ins_finP (x := ⟨(v : Int), (A : Int), (B : Int), Cd.sgn N⟩) (oB := W.heap.size) rfl rfl rfl ((blk_set (blk_set (blk_set (blk_set hB4.out))))) hev.out (PM.far (PM.far (PM.far (PM.far (PM.far h4.out (by omega)) (by omega)) (by omega)) (by omega)) (by omega)) (grown_newc (grown_newc (grown_newc (grown_newc (grown_newc hg4.out (Nat.le_refl _)) (Nat.le_refl _)) (Nat.le_refl _)) (Nat.le_refl _)) (Nat.le_refl _)) hN3 (fun h => ⟨by rw [hN2.out h]; rfl, rfl⟩)
        · rw [errV_no hrB] at HBn
          rw [bad_num' hrB] at eN
          rw [eN.out] at HP0
          dsimp only at HP0
          clear eN hB2' hA2
          generalize Cd.wa (v : Int) = ka at *
          generalize Cd.wb (v : Int) = kb at *
          generalize Cd.wn (v : Int) = kn at *
          go_enter Tryz.func90, Tryz.ntmps90
          go_wp2_with (first
            | (go_at_call 83; refine (HN.out).mono ?_; clear HN; rintro en w1 ⟨rfl, h1, hg1⟩
               have hB1 := (hg1.block W.heap.size (by simp) (by simp; omega)).trans hB0
               have k0 : w1.cell? ⟨W.heap.size, 0, none⟩ = some (.int .i64 0) := by simp [World.cell?, hB1]
               have k1 : w1.cell? ⟨W.heap.size, 1, none⟩ = some (.int .i64 0) := by simp [World.cell?, hB1]
               have k2 : w1.cell? ⟨W.heap.size, 2, none⟩ = some (.int .i64 0) := by simp [World.cell?, hB1]
               have k3 : w1.cell? ⟨W.heap.size, 3, none⟩ = some (.int .i64 0) := by simp [World.cell?, hB1]
               have kf : ∀ i, w1.frozen? ⟨W.heap.size, i, none⟩ = false := fun i => by simp [World.frozen?, hB1]
               replace h1 := hid h1
               replace hg1 := hid (grown_trans (grown_alloc (grown_refl W (some b)) _) hg1)
               replace hB1 := hid (blk_set (i := 0) (v := .int .i64 (v : Int)) hB1))
            | (go_at_call 95; refine (isOp_any _ _).mono ?_; rintro en w9 ⟨rfl, hw9⟩; obtain rfl := hw9.symm; rw [hop])
            | (go_at_call 104; refine (HW.out _).mono ?_; clear HW; rintro en w9 ⟨rfl, hw9⟩; obtain rfl := hw9.symm; dsimp only)
            | (go_at_call 83; refine (HA.out _ (h1.out.far (by omega))).mono ?_; clear HA; rintro en w2 ⟨rfl, h2, hg2⟩
               have hB2 := (hg2.block W.heap.size (Array.getElem?_eq_some_iff.1 hB1.out).1 (by simp; omega)).trans hB1.out
               have j0 : w2.cell? ⟨W.heap.size, 0, none⟩ = some (.int .i64 (v : Int)) := by simp [World.cell?, hB2]
               have j1 : w2.cell? ⟨W.heap.size, 1, none⟩ = some (.int .i64 0) := by simp [World.cell?, hB2]
               have j2 : w2.cell? ⟨W.heap.size, 2, none⟩ = some (.int .i64 0) := by simp [World.cell?, hB2]
               have j3 : w2.cell? ⟨W.heap.size, 3, none⟩ = some (.int .i64 0) := by simp [World.cell?, hB2]
               have jf : ∀ i, w2.frozen? ⟨W.heap.size, i, none⟩ = false := fun i => by simp [World.frozen?, hB2]
               replace h2 := hid h2
               replace hg2 := hid (grown_trans (grown_newc hg1.out (Nat.le_refl _)) hg2)
               replace hB2 := hid (blk_set (i := 1) (v := .int .i64 (A : Int)) hB2))
            | (go_at_call 83; refine (HBn.out _ (h2.out.far (by omega))).mono ?_; clear HBn; rintro en w3 ⟨rfl, h3, hg3⟩
               have hB3 := (hg3.block W.heap.size (Array.getElem?_eq_some_iff.1 hB2.out).1 (by simp; omega)).trans hB2.out
               have m0 : w3.cell? ⟨W.heap.size, 0, none⟩ = some (.int .i64 (v : Int)) := by simp [World.cell?, hB3]
               have m1 : w3.cell? ⟨W.heap.size, 1, none⟩ = some (.int .i64 (A : Int)) := by simp [World.cell?, hB3]
               have m2 : w3.cell? ⟨W.heap.size, 2, none⟩ = some (.int .i64 0) := by simp [World.cell?, hB3]
               have m3 : w3.cell? ⟨W.heap.size, 3, none⟩ = some (.int .i64 0) := by simp [World.cell?, hB3]
               have mf : ∀ i, w3.frozen? ⟨W.heap.size, i, none⟩ = false := fun i => by simp [World.frozen?, hB3]
               replace h3 := hid h3
               replace hg3 := hid (grown_trans (grown_newc hg2.out (Nat.le_refl _)) hg3)
               replace hB3 := hid (blk_set (i := 2) (v := .int .i64 (B : Int)) hB3))
            | go_in)
          rw [HP0.out]
          exact ins_finP (x := ⟨(v : Int), (A : Int), (B : Int), 0⟩) (oB := W.heap.size) rfl rfl rfl ((blk_set (blk_set (blk_set (blk_set hB3.out))))) (errV_no hrB) (PM.far (PM.far (PM.far (PM.far (PM.far h3.out (by omega)) (by omega)) (by omega)) (by omega)) (by omega)) (grown_newc (grown_newc (grown_newc (grown_newc (grown_newc hg3.out (Nat.le_refl _)) (Nat.le_refl _)) (Nat.le_refl _)) (Nat.le_refl _)) (Nat.le_refl _)) hB3' (fun h => absurd h hrB)
      · rw [errV_no hrA] at HA
        rw [bad_num' hrA] at eB
        rw [eB.out] at HP0 eN
        dsimp only at eN
        rw [bad_num' hrA] at eN
        rw [eN.out] at HP0
        dsimp only at HP0
        clear eN eB hA2
        generalize Cd.wa (v : Int) = ka at *
        generalize Cd.wb (v : Int) = kb at *
        generalize Cd.wn (v : Int) = kn at *
        go_enter Tryz.func90, Tryz.ntmps90
        go_wp2_with (first
          | (go_at_call 83; refine (HN.out).mono ?_; clear HN; rintro en w1 ⟨rfl, h1, hg1⟩
             have hB1 := (hg1.block W.heap.size (by simp) (by simp; omega)).trans hB0
             have k0 : w1.cell? ⟨W.heap.size, 0, none⟩ = some (.int .i64 0) := by simp [World.cell?, hB1]
             have k1 : w1.cell? ⟨W.heap.size, 1, none⟩ = some (.int .i64 0) := by simp [World.cell?, hB1]
             have k2 : w1.cell? ⟨W.heap.size, 2, none⟩ = some (.int .i64 0) := by simp [World.cell?, hB1]
             have k3 : w1.cell? ⟨W.heap.size, 3, none⟩ = some (.int .i64 0) := by simp [World.cell?, hB1]
             have kf : ∀ i, w1.frozen? ⟨W.heap.size, i, none⟩ = false := fun i => by simp [World.frozen?, hB1]
             replace h1 := hid h1
             replace hg1 := hid (grown_trans (grown_alloc (grown_refl W (some b)) _) hg1)
             replace hB1 := hid (blk_set (i := 0) (v := .int .i64 (v : Int)) hB1))
          | (go_at_call 95; refine (isOp_any _ _).mono ?_; rintro en w9 ⟨rfl, hw9⟩; obtain rfl := hw9.symm; rw [hop])
          | (go_at_call 104; refine (HW.out _).mono ?_; clear HW; rintro en w9 ⟨rfl, hw9⟩; obtain rfl := hw9.symm; dsimp only)
          | (go_at_call 83; refine (HA.out _ (h1.out.far (by omega))).mono ?_; clear HA; rintro en w2 ⟨rfl, h2, hg2⟩
             have hB2 := (hg2.block W.heap.size (Array.getElem?_eq_some_iff.1 hB1.out).1 (by simp; omega)).trans hB1.out
             have j0 : w2.cell? ⟨W.heap.size, 0, none⟩ = some (.int .i64 (v : Int)) := by simp [World.cell?, hB2]
             have j1 : w2.cell? ⟨W.heap.size, 1, none⟩ = some (.int .i64 0) := by simp [World.cell?, hB2]
             have j2 : w2.cell? ⟨W.heap.size, 2, none⟩ = some (.int .i64 0) := by simp [World.cell?, hB2]
             have j3 : w2.cell? ⟨W.heap.size, 3, none⟩ = some (.int .i64 0) := by simp [World.cell?, hB2]
             have jf : ∀ i, w2.frozen? ⟨W.heap.size, i, none⟩ = false := fun i => by simp [World.frozen?, hB2]
             replace h2 := hid h2
             replace hg2 := hid (grown_trans (grown_newc hg1.out (Nat.le_refl _)) hg2)
             replace hB2 := hid (blk_set (i := 1) (v := .int .i64 (A : Int)) hB2))
          | go_in)
        rw [HP0.out]
        exact ins_finP (x := ⟨(v : Int), (A : Int), 0, 0⟩) (oB := W.heap.size) rfl rfl rfl ((blk_set (blk_set (blk_set (blk_set hB2.out))))) (errV_no hrA) (PM.far (PM.far (PM.far (PM.far (PM.far h2.out (by omega)) (by omega)) (by omega)) (by omega)) (by omega)) (grown_newc (grown_newc (grown_newc (grown_newc (grown_newc hg2.out (Nat.le_refl _)) (Nat.le_refl _)) (Nat.le_refl _)) (Nat.le_refl _)) (Nat.le_refl _)) hA3 (fun h => absurd h hrA)
  · have hb := hbd.out hr
    simp only [Prod.mk.injEq] at hb
    obtain ⟨rfl, rfl⟩ := hb
    have HP : Hid (Cd.Rd.ins s (Cd.Rd.at_ q) = (⟨0, 0, 0, Cd.sgn 0⟩, ⟨q, 13, s.length⟩)) := by
      rw [Hid, HG.out, if_neg (fun h => hr h.1), if_pos (by decide), bad_num' hr]
      rfl
    rw [errV_no hr] at HN
    clear HG
    go_enter Tryz.func90, Tryz.ntmps90
    go_wp2_with (first
      | (go_at_call 83; refine (HN.out).mono ?_; clear HN; rintro en w1 ⟨rfl, h1, hg1⟩
         have hB1 := (hg1.block W.heap.size (by simp) (by simp; omega)).trans hB0
         have k0 : w1.cell? ⟨W.heap.size, 0, none⟩ = some (.int .i64 0) := by simp [World.cell?, hB1]
         have k1 : w1.cell? ⟨W.heap.size, 1, none⟩ = some (.int .i64 0) := by simp [World.cell?, hB1]
         have k2 : w1.cell? ⟨W.heap.size, 2, none⟩ = some (.int .i64 0) := by simp [World.cell?, hB1]
         have k3 : w1.cell? ⟨W.heap.size, 3, none⟩ = some (.int .i64 0) := by simp [World.cell?, hB1]
         have kf : ∀ i, w1.frozen? ⟨W.heap.size, i, none⟩ = false := fun i => by simp [World.frozen?, hB1]
         replace h1 := hid h1
         replace hg1 := hid (grown_trans (grown_alloc (grown_refl W (some b)) _) hg1)
         replace hB1 := hid (blk_set (i := 0) (v := .int .i64 ((0 : Nat) : Int)) hB1))
      | go_in)
    rw [HP.out]
    exact ins_finP (x := ⟨((0 : Nat) : Int), 0, 0, 0⟩) (oB := W.heap.size) rfl rfl rfl ((blk_set (blk_set (blk_set (blk_set hB1.out))))) (errV_no hr) (PM.far (PM.far (PM.far (PM.far (PM.far h1.out (by omega)) (by omega)) (by omega)) (by omega)) (by omega)) (grown_newc (grown_newc (grown_newc (grown_newc (grown_newc hg1.out (Nat.le_refl _)) (Nat.le_refl _)) (Nat.le_refl _)) (Nat.le_refl _)) (Nat.le_refl _)) hq (fun h => absurd h hr)
end Go.Proofs.YtpjbfdpblgjmfaaGreatDoor
