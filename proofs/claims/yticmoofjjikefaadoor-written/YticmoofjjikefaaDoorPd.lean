/-
  The program's number.
-/
import Derived.Test.YticmoofjjikefaaDoorPc
set_option linter.unusedVariables false
set_option linter.unusedSimpArgs false
namespace Go.Proofs.YticmoofjjikefaaDoor
open Go.RowKit Go.Lib

theorem fitsc_any (v : Int) (k : Nat) (w : World) (hk : k = 0 ∨ k = 1 ∨ k = 2 ∨ k = 8) :
    Calls Tryd.prog 52 #[.int .i64 v, .int .i64 k] w fun e w' => e = .returned (.bool (Cd.fitsW v k)) ∧ w' = w := by
  rcases hk with rfl | rfl | rfl | rfl
  all_goals
    go_enter Tryd.func52, Tryd.ntmps52
    go_wp2
    all_goals
      go_ret
      refine ⟨ret_bool ?_, rfl⟩
      unfold Cd.fitsW
      rw [Bool.eq_iff_iff]
      simp
      try omega

theorem big_next (v : Int) (k j : Nat) (h : j < k) : Cd.big (v / 256 ^ j) (k - j) = Cd.big (v / 256 ^ (j + 1)) (k - (j + 1)) ++ [Cd.low (v / 256 ^ j)] := by
  have e : k - j = (k - (j + 1)) + 1 := by omega
  rw [e, Cd.big, Int.pow_succ, ← Int.ediv_ediv_of_nonneg (Int.le_of_lt (Int.pow_pos (by decide)))]
theorem shr_pow (v : Int) (j : Nat) : v / 2 ^ (8 * j) = v / 256 ^ j := by
  rw [Int.pow_mul]
  rfl
theorem wp_byte (v : Int) : IntKind.u8.wrap v = ((Cd.low v).toNat : Int) := by
  rw [low_int]
  rfl

section
variable {ops : Array Oper} {o : Oper} {a : Act} {w : World} {K : Act → World → Prop} {Q : Exit → Act → World → Prop}
theorem step_bytes_one {E : Prop} (hg : o.guard = none) (s x : Operand) (hop : o.op = Op.call { callee := Callee.builtin Builtin.append, args := #[s, x], argTypes := #[67, 67] })
    (B : Nat) (v : Value) (l : List UInt8) (ad : Addr) (c : UInt8) (cp : Nat) (hs : a.eval s = v) (hx : a.eval x = .slice (some ad) 1 cp) (hc : w.cell? ad = some (.int .u8 (c.toNat : Int))) (h : ByRow w B v l) (hB : B ≤ w.heap.size) (hl : l.length + 1 ≤ 140737488355328)
    (hK : ∀ v' w', ByRow w' B v' (l ++ [c]) → Below B w w' → w.grownBy w' v.ownBlock → (v'.ownBlock = v.ownBlock ∨ v'.ownBlock = some w.heap.size) → K (a.put o.dst v') w') : if Region.wanted o (yielded ops a.tmps) = true then Oper.wp Tryd.prog o a w K Q else E := by
  have hw : Region.wanted o (yielded ops a.tmps) = true := by simp [Region.wanted, hg]
  rw [if_pos hw]
  obtain ⟨v', w', hr, h1, h2, h3⟩ := bytes_one w B v l o.type ad c cp hc h hB hl
  unfold Oper.wp execOp
  simp only [hop, resolve, invoke, builtin, Sem.run_bind, Sem.run_pure, Result.andThen_ok, List.map_toArray, List.map_cons, List.map_nil, hs, hx, hr]
  exact hK _ _ h1 (h.below hB h2) h2 h3
end

set_option maxHeartbeats 1000000 in
theorem number_round {Z : Nat → Prop} {w wr : World} {p k j : Nat} {vv : Int} {s : Cd.WSt} (hj : j < k) (hk : k ≤ 8) (hy : s.1.length + k ≤ 4000000) (h : WK Z wr p (s.1 ++ Cd.big (vv / 256 ^ (j + 1)) (k - (j + 1)), s.2)) (hkz : Kz Z w wr) :
    ∃ v L, wr.cell? ⟨p, 0, none⟩ = some v ∧ wr.frozen? ⟨p, 0, none⟩ = false ∧ ByRow wr 0 v L ∧ L.length ≤ 3999999 ∧ p < wr.heap.size ∧ v.ownBlock ≠ some p ∧ (∀ v2 w2 o, ByRow w2 0 v2 (L ++ [Cd.low (vv / 256 ^ j)]) → (wr.alloc o).drew.grownBy w2 v.ownBlock → (v2.ownBlock = v.ownBlock ∨ v2.ownBlock = some (wr.alloc o).drew.heap.size) → WK Z (w2.setCell ⟨p, 0, none⟩ v2) p (s.1 ++ Cd.big (vv / 256 ^ j) (k - j), s.2) ∧ Kz Z w (w2.setCell ⟨p, 0, none⟩ v2)) := by
  obtain ⟨v, h1, h2⟩ := h
  obtain ⟨c0, c1, c2, hf⟩ := h1.cells
  have hlen : (s.1 ++ Cd.big (vv / 256 ^ (j + 1)) (k - (j + 1))).length ≤ 3999999 := by
    simp [Cd.big_length]
    omega
  refine ⟨v, _, c0, hf 0, h1.row_at (by dsimp only; omega), hlen, h1.lt, h1.ne, fun v2 w2 o hr hg hat => ?_⟩
  have hz3 : ZP Z (wr.alloc o).drew p v := fun k hk => ⟨by have := (h2 k hk).1; simp; omega, (h2 k hk).2⟩
  have h1a := h1.alloc o
  have h1d : WM (wr.alloc o).drew p v (s.1 ++ Cd.big (vv / 256 ^ (j + 1)) (k - (j + 1)), s.2) := ⟨h1a.blk, h1a.row, h1a.ne⟩
  obtain ⟨a, b, c⟩ := h1d.app hz3 (l := [Cd.low (vv / 256 ^ j)]) (by simp only [List.length_singleton]; omega) hr hg hat
  rw [big_next vv k j hj, ← List.append_assoc]
  have hd : Kz Z wr (wr.alloc o).drew := Kz.alloc Z wr o |>.trans ⟨rfl, rfl, rfl, Nat.le_refl _, fun _ _ _ => rfl⟩
  exact ⟨⟨v2, a, b⟩, (hkz.trans hd).trans c⟩

set_option maxHeartbeats 2000000 in
theorem number_any (Z : Nat → Prop) (w : World) (p : Nat) (s : Cd.WSt) (vv : Int) (k : Nat) (h : WK Z w p s) (hk : k = 0 ∨ k = 1 ∨ k = 2 ∨ k = 8) :
    Calls Tryd.prog 34 #[ptrV p, .int .i64 vv, .int .i64 k] w (WPost Z w p (Cd.wnum vv k s)) := by
  have hk8 : k ≤ 8 := by omega
  have HK := hid hk
  clear hk
  obtain ⟨v, hm, hz⟩ := h
  have HR := hid (room_any w p v s k hm (by omega))
  obtain ⟨c0, c1, c2, hf⟩ := hm.cells
  have HM := hid hm
  have HZ := hid hz
  clear hm hz
  unfold ptrV at HR ⊢
  by_cases hfit : Cd.fitsW vv k = true
  · have HP : Hid (Cd.wnum vv k s = (s.1 ++ Cd.big vv k, s.2)) := by simp [Hid, Cd.wnum, hfit]
    by_cases hy : s.1.length + k ≤ 4000000
    · have hyd : decide (s.1.length + k ≤ 4000000) = true := by simpa using hy
      go_enter Tryd.func34, Tryd.ntmps34
      go_wp2_with (first
        | (go_at_call 52; refine (fitsc_any _ k _ HK.out).mono ?_; rintro en w1 ⟨rfl, hw1⟩; obtain rfl := hw1.symm; rw [hfit])
        | (go_at_call 51; refine HR.out.mono ?_; clear HR; rintro en w1 ⟨rfl, h1, _, hg⟩
           rw [hyd]
           replace h1 := hid (h1 hy)
           replace hg := hid hg
           clear c0 c1 c2 hf)
        | go_in)
      have HS0 : Hid (WK Z w1 p (s.1 ++ Cd.big (vv / 256 ^ k) (k - k), s.2) ∧ Kz Z w w1) := by
        obtain ⟨a, b⟩ := WM.far hg.out HZ.out
        refine ⟨⟨v, ?_, a⟩, b⟩
        simp [Cd.big]
        exact h1.out
      clear h1 hg
      go_loopw [2] (fun t wr => ∃ j : Nat, t = .int .i64 j ∧ j ≤ k ∧ Hid (WK Z wr p (s.1 ++ Cd.big (vv / 256 ^ j) (k - j), s.2) ∧ Kz Z w wr)) (fun t _ => (intOf t).toNat)
      case atStart => exact ⟨k, rfl, Nat.le_refl _, HS0⟩
      case round =>
        obtain ⟨j, rfl, hj, HS⟩ := hrel
        cases j with
        | zero =>
          go_wp2
          refine bodyPost_end (results_none rfl _ _ _) rfl ⟨rfl, ?_⟩
          rw [HP.out]
          have := HS.out
          simpa using this
        | succ j =>
          obtain ⟨v, L, c0, hf0, hr, hL, hp, hne, hnx⟩ := number_round (vv := vv) (by omega : j < k) hk8 hy HS.out.1 HS.out.2
          have hr2 := hid hr
          obtain ⟨g, cap, rfl, _⟩ := hr.cell
          have HNX := hid hnx
          clear hnx hr HS HS0 HM HZ
          have e0 : IntKind.i64.wrap (j : Int) = j := by rw [IntKind.wrap_i64]; omega
          have e2 : IntKind.i64.wrap (8 * (j : Int)) = 8 * (j : Int) := by rw [IntKind.wrap_i64]; omega
          have e5 : IntKind.u8.wrap (vv / 2 ^ (8 * (j : Int)).toNat) = ((Cd.low (vv / 256 ^ j)).toNat : Int) := by
            rw [show (8 * (j : Int)).toNat = 8 * j by omega, shr_pow, wp_byte]
          generalize Cd.low (vv / 256 ^ j) = C at e5 HNX
          go_wp2_with fail
          refine wp_region_held_drew (S := (fun _ => True)) (by kernel_rfl) (by first | trivial | ((try dsimp only); go_keep)) (fun hHeld => ?_)
          refine wpAnyH_take (i := 0) (v := ?vvn1) rfl (by kernel_rfl) (by kernel_rfl) (by kernel_rfl) (fun _ _ _ h => h) (Or.inl ⟨by rfl, ?yyn1⟩) (by assumption) ?rrn1
          case yyn1 => (intro w' hSw; (try dsimp only at hSw); go_simp; (try with_reducible rfl))
          try simp only [Act.put, List.setIfInBounds_toArray, List.set_cons_zero, List.set_cons_succ]
          refine wpAnyH_take (i := 1) (v := ?vvn2) rfl (by kernel_rfl) (by kernel_rfl) (by kernel_rfl) (fun _ _ _ h => h) (Or.inl ⟨by rfl, ?yyn2⟩) (by assumption) ?rrn2
          case yyn2 => (intro w' hSw; (try dsimp only at hSw); go_simp; (try with_reducible rfl))
          try simp only [Act.put, List.setIfInBounds_toArray, List.set_cons_zero, List.set_cons_succ]
          refine wpAnyH_take (i := 2) (v := ?vvn3) rfl (by kernel_rfl) (by kernel_rfl) (by kernel_rfl) (fun _ _ _ h => h) (Or.inl ⟨by rfl, ?yyn3⟩) (by assumption) ?rrn3
          case yyn3 => (intro w' hSw; (try dsimp only at hSw); go_simp; (try with_reducible rfl))
          try simp only [Act.put, List.setIfInBounds_toArray, List.set_cons_zero, List.set_cons_succ]
          refine wpAnyH_take (i := 3) (v := ?vvn4) rfl (by kernel_rfl) (by kernel_rfl) (by kernel_rfl) (fun _ _ _ h => h) (Or.inl ⟨by rfl, ?yyn4⟩) (by assumption) ?rrn4
          case yyn4 => (intro w' hSw; (try dsimp only at hSw); go_simp; (try with_reducible rfl))
          try simp only [Act.put, List.setIfInBounds_toArray, List.set_cons_zero, List.set_cons_succ]
          refine wpAnyH_take (i := 5) (v := ?vvn5) rfl (by kernel_rfl) (by kernel_rfl) (by kernel_rfl) (fun _ _ _ h => h) (Or.inl ⟨by rfl, ?yyn5⟩) (by assumption) ?rrn5
          case yyn5 => (intro w' hSw; (try dsimp only at hSw); go_simp; (try with_reducible rfl))
          try simp only [Act.put, List.setIfInBounds_toArray, List.set_cons_zero, List.set_cons_succ]
          refine wpAnyH_take (i := 6) (v := ?vvn6) rfl (by kernel_rfl) (by kernel_rfl) (by kernel_rfl) (fun _ _ _ h => h) (Or.inl ⟨by rfl, ?yyn6⟩) (by assumption) ?rrn6
          case yyn6 => (intro w' hSw; (try dsimp only at hSw); go_simp; (try with_reducible rfl))
          try simp only [Act.put, List.setIfInBounds_toArray, List.set_cons_zero, List.set_cons_succ]
          refine wpAnyH_take (i := 7) (v := ?vvn7) rfl (by kernel_rfl) (by kernel_rfl) (by kernel_rfl) (fun _ _ _ h => h) (Or.inl ⟨by rfl, ?yyn7⟩) (by assumption) ?rrn7
          case yyn7 => (intro w' hSw; (try dsimp only at hSw); go_simp; (try with_reducible rfl))
          try simp only [Act.put, List.setIfInBounds_toArray, List.set_cons_zero, List.set_cons_succ]
          refine wpAnyH_take (i := 8) (v := ?vvn8) rfl (by kernel_rfl) (by kernel_rfl) (by kernel_rfl) (fun _ _ _ h => h) (Or.inl ⟨by rfl, ?yyn8⟩) (by assumption) ?rrn8
          case yyn8 => (intro w' hSw; (try dsimp only at hSw); go_simp; (try with_reducible rfl))
          try simp only [Act.put, List.setIfInBounds_toArray, List.set_cons_zero, List.set_cons_succ]
          refine wpAnyH_take (i := 9) (v := ?vvn9) rfl (by kernel_rfl) (by kernel_rfl) (by kernel_rfl) (fun _ _ _ h => h) (Or.inl ⟨by rfl, ?yyn9⟩) (by assumption) ?rrn9
          case yyn9 => (intro w' hSw; (try dsimp only at hSw); go_simp; (try with_reducible rfl))
          try simp only [Act.put, List.setIfInBounds_toArray, List.set_cons_zero, List.set_cons_succ]
          refine wpAnyH_take (i := 10) (v := ?vvn10) rfl (by kernel_rfl) (by kernel_rfl) (by kernel_rfl) (fun _ _ _ h => h) (Or.inl ⟨by rfl, ?yyn10⟩) (by assumption) ?rrn10
          case yyn10 => (intro w' hSw; (try dsimp only at hSw); go_simp; (try with_reducible rfl))
          try simp only [Act.put, List.setIfInBounds_toArray, List.set_cons_zero, List.set_cons_succ]
          refine wpAnyH_ready (rs := [4, 11]) (by kernel_rfl) (by simp) (AllReadyH.cons rfl (fun K hK => ?_) (AllReadyH.cons rfl (fun K hK => ?_) AllReadyH.nil))
          · go_simp
            skip
            clear hHeld
            refine hK.out _ _ ?hs (fun hHeld => ?_)
            case hs => (first | trivial | ((try dsimp only); go_keep) | ((try dsimp only); simp [*, World.cell?_alloc_some, World.cell?_setCell_far, World.cell?_setCell_other]))
            clear hK K
            try simp only [Act.put, List.setIfInBounds_toArray, List.set_cons_zero, List.set_cons_succ]
            refine wpAnyH_ready (rs := [11]) (by kernel_rfl) (by simp) (AllReadyH.cons rfl (fun K hK => ?_) AllReadyH.nil)
            go_simp
            skip
            clear hHeld
            refine hK.out _ _ ?hs (fun hHeld => ?_)
            case hs => (first | trivial | ((try dsimp only); go_keep) | ((try dsimp only); simp [*, World.cell?_alloc_some, World.cell?_setCell_far, World.cell?_setCell_other]))
            clear hK K
            try simp only [Act.put, List.setIfInBounds_toArray, List.set_cons_zero, List.set_cons_succ]
            refine wpAnyH_ready (rs := [12]) (by kernel_rfl) (by simp) (AllReadyH.cons rfl (fun K hK => ?_) AllReadyH.nil)
            refine step_bytes_one rfl _ _ rfl 0 _ L ⟨wr.heap.size, 0, none⟩ C 1 rfl rfl ?hc (hr2.out.keep (((Below.refl _ _).alloc (Nat.le_refl _) _).drew)) (Nat.zero_le _) (by omega) ?_
            case hc => simp
            intro v2 w2 hr3 hb3 hg3 hat3
            have hp2 : w2.cell? ⟨p, 0, none⟩ = some (.slice (some ⟨g, 0, none⟩) L.length cap) := (World.cell?_of_block (hg3.block p (by simp; omega) (fun e => hne e.symm))).trans ((World.cell?_of_block (Below.heap_alloc wr _ p hp)).trans c0)
            have hf2 : w2.frozen? ⟨p, 0, none⟩ = false := (World.frozen?_of_block (hg3.block p (by simp; omega) (fun e => hne e.symm))).trans ((World.frozen?_of_block (Below.heap_alloc wr _ p hp)).trans hf0)
            obtain ⟨g2, cap2, rfl, _⟩ := hr3.cell
            have HN := HNX.out _ _ _ hr3 hg3 hat3
            simp only [List.length_append, List.length_cons, List.length_nil, Nat.zero_add] at HN
            replace HN := hid HN
            clear hr3 hb3 hg3 hat3
            clear hHeld
            refine hK.out _ _ ?hs (fun hHeld => ?_)
            case hs => (first | trivial | ((try dsimp only); go_keep) | ((try dsimp only); simp [*, World.cell?_alloc_some, World.cell?_setCell_far, World.cell?_setCell_other]))
            clear hK K
            try simp only [Act.put, List.setIfInBounds_toArray, List.set_cons_zero, List.set_cons_succ]
            refine wpAnyH_take (i := 13) (v := ?vvn11) rfl (by kernel_rfl) (by kernel_rfl) (by kernel_rfl) (fun _ _ _ h => h) (Or.inl ⟨by rfl, ?yyn11⟩) (by assumption) ?rrn11
            case yyn11 => (intro w' hSw; (try dsimp only at hSw); go_simp; (try with_reducible rfl))
            try simp only [Act.put, List.setIfInBounds_toArray, List.set_cons_zero, List.set_cons_succ]
            refine wpAnyH_take (i := 14) (v := ?vvn12) rfl (by kernel_rfl) (by kernel_rfl) (by kernel_rfl) (fun _ _ _ h => h) (Or.inl ⟨by rfl, ?yyn12⟩) (by assumption) ?rrn12
            case yyn12 => (intro w' hSw; (try dsimp only at hSw); go_simp; (try with_reducible rfl))
            try simp only [Act.put, List.setIfInBounds_toArray, List.set_cons_zero, List.set_cons_succ]
            refine wpAnyH_ready (rs := [15]) (by kernel_rfl) (by simp) (AllReadyH.cons rfl (fun K hK => ?_) AllReadyH.nil)
            go_simp
            skip
            clear hHeld
            refine hK.out _ _ ?hs (fun hHeld => ?_)
            case hs => (first | trivial | ((try dsimp only); go_keep) | ((try dsimp only); simp [*, World.cell?_alloc_some, World.cell?_setCell_far, World.cell?_setCell_other]))
            clear hK K
            try simp only [Act.put, List.setIfInBounds_toArray, List.set_cons_zero, List.set_cons_succ]
            refine wpAnyH_done (by kernel_rfl) ?_ _
            clear hHeld
            go_wp2
            go_roundw
            case rel => exact ⟨j, rfl, by omega, HN⟩
            case measure => simp [intOf]
          · go_simp
            skip
            clear hHeld
            refine hK.out _ _ ?hs (fun hHeld => ?_)
            case hs => (first | trivial | ((try dsimp only); go_keep) | ((try dsimp only); simp [*, World.cell?_alloc_some, World.cell?_setCell_far, World.cell?_setCell_other]))
            clear hK K
            try simp only [Act.put, List.setIfInBounds_toArray, List.set_cons_zero, List.set_cons_succ]
            refine wpAnyH_ready (rs := [4]) (by kernel_rfl) (by simp) (AllReadyH.cons rfl (fun K hK => ?_) AllReadyH.nil)
            go_simp
            skip
            clear hHeld
            refine hK.out _ _ ?hs (fun hHeld => ?_)
            case hs => (first | trivial | ((try dsimp only); go_keep) | ((try dsimp only); simp [*, World.cell?_alloc_some, World.cell?_setCell_far, World.cell?_setCell_other]))
            clear hK K
            try simp only [Act.put, List.setIfInBounds_toArray, List.set_cons_zero, List.set_cons_succ]
            refine wpAnyH_ready (rs := [12]) (by kernel_rfl) (by simp) (AllReadyH.cons rfl (fun K hK => ?_) AllReadyH.nil)
            refine step_bytes_one rfl _ _ rfl 0 _ L ⟨wr.heap.size, 0, none⟩ C 1 rfl rfl ?hc (hr2.out.keep (((Below.refl _ _).alloc (Nat.le_refl _) _).drew)) (Nat.zero_le _) (by omega) ?_
            case hc => simp
            intro v2 w2 hr3 hb3 hg3 hat3
            have hp2 : w2.cell? ⟨p, 0, none⟩ = some (.slice (some ⟨g, 0, none⟩) L.length cap) := (World.cell?_of_block (hg3.block p (by simp; omega) (fun e => hne e.symm))).trans ((World.cell?_of_block (Below.heap_alloc wr _ p hp)).trans c0)
            have hf2 : w2.frozen? ⟨p, 0, none⟩ = false := (World.frozen?_of_block (hg3.block p (by simp; omega) (fun e => hne e.symm))).trans ((World.frozen?_of_block (Below.heap_alloc wr _ p hp)).trans hf0)
            obtain ⟨g2, cap2, rfl, _⟩ := hr3.cell
            have HN := HNX.out _ _ _ hr3 hg3 hat3
            simp only [List.length_append, List.length_cons, List.length_nil, Nat.zero_add] at HN
            replace HN := hid HN
            clear hr3 hb3 hg3 hat3
            clear hHeld
            refine hK.out _ _ ?hs (fun hHeld => ?_)
            case hs => (first | trivial | ((try dsimp only); go_keep) | ((try dsimp only); simp [*, World.cell?_alloc_some, World.cell?_setCell_far, World.cell?_setCell_other]))
            clear hK K
            try simp only [Act.put, List.setIfInBounds_toArray, List.set_cons_zero, List.set_cons_succ]
            refine wpAnyH_take (i := 13) (v := ?vvn13) rfl (by kernel_rfl) (by kernel_rfl) (by kernel_rfl) (fun _ _ _ h => h) (Or.inl ⟨by rfl, ?yyn13⟩) (by assumption) ?rrn13
            case yyn13 => (intro w' hSw; (try dsimp only at hSw); go_simp; (try with_reducible rfl))
            try simp only [Act.put, List.setIfInBounds_toArray, List.set_cons_zero, List.set_cons_succ]
            refine wpAnyH_take (i := 14) (v := ?vvn14) rfl (by kernel_rfl) (by kernel_rfl) (by kernel_rfl) (fun _ _ _ h => h) (Or.inl ⟨by rfl, ?yyn14⟩) (by assumption) ?rrn14
            case yyn14 => (intro w' hSw; (try dsimp only at hSw); go_simp; (try with_reducible rfl))
            try simp only [Act.put, List.setIfInBounds_toArray, List.set_cons_zero, List.set_cons_succ]
            refine wpAnyH_ready (rs := [15]) (by kernel_rfl) (by simp) (AllReadyH.cons rfl (fun K hK => ?_) AllReadyH.nil)
            go_simp
            skip
            clear hHeld
            refine hK.out _ _ ?hs (fun hHeld => ?_)
            case hs => (first | trivial | ((try dsimp only); go_keep) | ((try dsimp only); simp [*, World.cell?_alloc_some, World.cell?_setCell_far, World.cell?_setCell_other]))
            clear hK K
            try simp only [Act.put, List.setIfInBounds_toArray, List.set_cons_zero, List.set_cons_succ]
            refine wpAnyH_done (by kernel_rfl) ?_ _
            clear hHeld
            go_wp2
            go_roundw
            case rel => exact ⟨j, rfl, by omega, HN⟩
            case measure => simp [intOf]
    · have hyd : decide (s.1.length + k ≤ 4000000) = false := by simpa using hy
      go_enter Tryd.func34, Tryd.ntmps34
      go_wp2_with (first
        | (go_at_call 52; refine (fitsc_any _ k _ HK.out).mono ?_; rintro en w1 ⟨rfl, hw1⟩; obtain rfl := hw1.symm; rw [hfit])
        | (go_at_call 51; refine HR.out.mono ?_; clear HR; rintro en w1 ⟨rfl, _, h1, hg⟩
           rw [hyd]
           replace h1 := hid (h1 hy (Cd.big vv k) (Cd.big_length _ _))
           replace hg := hid hg
           clear c0 c1 c2 hf)
        | go_in)
      refine bodyPost_end (results_none rfl _ _ _) rfl ⟨rfl, ?_⟩
      rw [HP.out]
      obtain ⟨hz1, hk1⟩ := WM.far hg.out HZ.out
      exact ⟨⟨v, h1.out, hz1⟩, hk1⟩
  · have hfit2 : Cd.fitsW vv k = false := by simpa using hfit
    have HP : Hid (Cd.wnum vv k s = (s.1, true)) := by simp [Hid, Cd.wnum, hfit2]
    go_enter Tryd.func34, Tryd.ntmps34
    go_wp2_with (first
      | (go_at_call 52; refine (fitsc_any _ k _ HK.out).mono ?_; rintro en w1 ⟨rfl, hw1⟩; obtain rfl := hw1.symm; rw [hfit2])
      | go_in)
    refine bodyPost_end (results_none rfl _ _ _) rfl ⟨rfl, ?_⟩
    rw [HP.out]
    obtain ⟨hz1, hk1⟩ := WM.far (grown_set (i := 1) (grown_refl w _) (.bool true)) HZ.out
    exact ⟨⟨v, HM.out.misfit, hz1⟩, hk1⟩
end Go.Proofs.YticmoofjjikefaaDoor
