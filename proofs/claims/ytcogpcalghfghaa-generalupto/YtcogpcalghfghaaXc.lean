/-
  The statement's by, of what is no variable.
-/
import Derived.Test.YtcogpcalghfghaaXe
set_option linter.unusedVariables false
set_option linter.unusedSimpArgs false
namespace Go.Proofs.Ytcogpcalghfghaa
open Go.RowKit
open Un (Nm ins joinB Srt RV rowW rvOf app)

set_option maxRecDepth 100000 in
set_option maxHeartbeats 16000000 in
theorem by_tree {t : Ty.P} (h0 : t.kind ≠ 0) (ih : ∀ x ∈ kidsT t, ByOK x) : ByOK t := by
  intro σ w0 w d a g o n c Z os az hc0 ha hM hσ hi hok hp
  have hgen := hi.gen
  obtain ⟨hO, aa, ca, rfl, hK⟩ := hgen
  obtain ⟨oa, oc, rfl, hO1, hO2⟩ := id hO
  have hop := ops_parts t
  have hlen := hM.len
  have hk0 : ¬ (t.kind : Int) = 0 := by omega
  have hch := ((al_ch w (tyB t.kind t.num t.row (.slice oa t.ops.length oc) (.slice aa (kidsT t).length ca))).trans (al_ch _ (tyB 0 0 0 (.slice none 0 0) (.slice none 0 0))) (fun _ h => h.elim)).trans (al_ch _ (tyB t.kind t.num t.row (.slice none 0 0) (.slice none 0 0))) (fun _ h => h.elim)
  replace hM := hid hM
  replace ha := hid ha
  replace hσ := hid hσ
  replace hc0 := hid hc0
  replace hO := hid hO
  replace hO1 := hid hO1
  replace hO2 := hid hO2
  replace hK := hid hK
  replace hch := hid hch
  replace ih := hid ih
  replace hi := hid hi
  replace hok := hid hok
  go_enter Try.func6, Try.ntmps6
  go_wp2
  have hB0 : Hid (ByS w (((w.alloc (tyB t.kind t.num t.row (.slice oa t.ops.length oc) (.slice aa (kidsT t).length ca))).alloc (tyB 0 0 0 (.slice none 0 0) (.slice none 0 0))).alloc (tyB t.kind t.num t.row (.slice none 0 0) (.slice none 0 0))) w.heap.size (w.heap.size + 1) (w.heap.size + 1 + 1) t.kind t.num t.row (.slice oa t.ops.length oc) (.slice aa (kidsT t).length ca) t.row (.slice none 0 0) (.slice none 0 0)) := by
    have b1 := World.alloc_heap_new w (tyB t.kind t.num t.row (.slice oa t.ops.length oc) (.slice aa (kidsT t).length ca))
    have b2 := World.alloc_heap_new (w.alloc (tyB t.kind t.num t.row (.slice oa t.ops.length oc) (.slice aa (kidsT t).length ca))) (tyB 0 0 0 (.slice none 0 0) (.slice none 0 0))
    have b3 := World.alloc_heap_new ((w.alloc (tyB t.kind t.num t.row (.slice oa t.ops.length oc) (.slice aa (kidsT t).length ca))).alloc (tyB 0 0 0 (.slice none 0 0) (.slice none 0 0))) (tyB t.kind t.num t.row (.slice none 0 0) (.slice none 0 0))
    rw [World.size_alloc] at b2
    rw [World.size_alloc, World.size_alloc] at b3
    exact ⟨hch.out, blk_alloc (blk_alloc b1), blk_alloc b2, b3, by omega, by omega, by omega, by omega⟩
  clear hch
  generalize ((w.alloc (tyB t.kind t.num t.row (.slice oa t.ops.length oc) (.slice aa (kidsT t).length ca))).alloc (tyB 0 0 0 (.slice none 0 0) (.slice none 0 0))).alloc (tyB t.kind t.num t.row (.slice none 0 0) (.slice none 0 0)) = W1 at *
  generalize w.heap.size + 1 + 1 = ub at *
  generalize w.heap.size + 1 = rb at *
  generalize w.heap.size = tb at *
  clear hi
  have hkb : ((t.kind : Int) == 0) = false := by simpa using hk0
  simp only [hkb]
  go_loopg [7] (t.ops.length + 1) (fun q v7 wr => ∃ (j : Nat) (v : Value), v7 = .int .i64 (j : Nat) ∧ j ≤ t.ops.length ∧ q = t.ops.length + 1 - j ∧ Hid (ByS w wr tb rb ub t.kind t.num t.row (.slice oa t.ops.length oc) (.slice aa (kidsT t).length ca) t.row v (.slice none 0 0)) ∧ Hid (SV wr v (joinB [] (t.ops.take j))) ∧ Hid (∀ k, v.ownBlock = some k → w.heap.size ≤ k ∧ k ≠ ub ∧ k ≠ rb))
  case atStart => exact ⟨0, .slice none 0 0, rfl, by omega, by omega, hB0, hid ⟨none, 0, rfl, .inl ⟨rfl, rfl, rfl⟩⟩, hid (fun k hk => by cases hk)⟩
  case round =>
    clear hB0
    obtain ⟨j, v, rfl, hj, rfl, hB, hSV, hv⟩ := hrel
    obtain ⟨va0, vc0, hve, -⟩ := id hSV.out
    subst hve
    obtain ⟨c2t, c3t, c4t, c0u, c1u, c2u, c3u, c4u, cuf⟩ := hB.out.cells
    by_cases e : j < t.ops.length
    · have i0 : (0 : Int) ≤ j := by omega
      have i1 : (j : Int) < (t.ops.length : Int) := by omega
      have hwi : IntKind.i64.wrap ((j : Int) + 1) = (j : Int) + 1 := IntWalk.i64_in _ (by omega)
      obtain ⟨og, oo, rfl, hog⟩ := hO2.out (fun h => by rw [h] at e; cases e)
      have hcw : Ch (fun _ => False) w0 wr := hc0.out.trans hB.out.ch (fun _ h => h.elim)
      obtain ⟨s, hs⟩ : ∃ s, s = t.ops[j] := ⟨_, rfl⟩
      have cs := cell_keeps hcw (hog j e)
      rw [← hs] at cs
      have hlt : og < w.heap.size := Nat.lt_of_lt_of_le (World.block_lt_of_cell? w0 ⟨og, oo + j, none⟩ (hog j e)) hc0.out.size
      have ne1 : ¬ tb = ub := hB.out.ne.1
      have ne2 : ¬ og = ub := by have := hB.out.lu; omega
      have hjl : (joinB [] (t.ops.take j)).length < 1000000000 := by rw [Un.joinB_length]; simp; omega
      have HP := fun (W : World) (hW : Ch (fun _ => False) wr W) => put_any W (.slice va0 (joinB [] (t.ops.take j)).length vc0) (joinB [] (t.ops.take j)) s (hSV.out.keep hW (fun _ _ h => h)) hjl
      have hnx : Hid (joinB [] (t.ops.take (j + 1)) = ins s (joinB [] (t.ops.take j))) := by
        have := joinB_take e []
        rw [← hs] at this
        exact this
      clear hog hs hcw c2t c4t c0u c1u c2u c4u
      go_upto_region 12 with (fail)
      have hS0 : (fun w' => w'.cell? ⟨tb, 3, none⟩ = some (.slice (some ⟨og, oo, none⟩) t.ops.length oc) ∧ w'.cell? ⟨og, oo + j, none⟩ = some (str s)) wr.drew := ⟨cell_keeps (Ch.drew (fun _ => False) wr) c3t, cell_keeps (Ch.drew (fun _ => False) wr) cs⟩
      refine wp_region_held_drew (S := (fun w' => w'.cell? ⟨tb, 3, none⟩ = some (.slice (some ⟨og, oo, none⟩) t.ops.length oc) ∧ w'.cell? ⟨og, oo + j, none⟩ = some (str s))) (by kernel_rfl) (by first | trivial | ((try dsimp only); go_keep)) (fun hHeld => ?_)
      refine wpAnyH_take (i := 0) (v := ?vvxc1) rfl (by kernel_rfl) (by kernel_rfl) (by kernel_rfl) (fun _ _ _ h => h) (Or.inl ⟨by rfl, ?yyxc1⟩) (by assumption) ?rrxc1
      case yyxc1 => (intro w' hSw; (try dsimp only at hSw); go_simp; (try with_reducible rfl))
      try simp only [Act.put, List.setIfInBounds_toArray, List.set_cons_zero, List.set_cons_succ]
      refine wpAnyH_take (i := 2) (v := ?vvxc2) rfl (by kernel_rfl) (by kernel_rfl) (by kernel_rfl) (fun _ _ _ h => h) (Or.inl ⟨by rfl, ?yyxc2⟩) (by assumption) ?rrxc2
      case yyxc2 => (intro w' hSw; (try dsimp only at hSw); go_simp; (try with_reducible rfl))
      try simp only [Act.put, List.setIfInBounds_toArray, List.set_cons_zero, List.set_cons_succ]
      refine wpAnyH_take (i := 3) (v := ?vvxc3) rfl (by kernel_rfl) (by kernel_rfl) (by kernel_rfl) (fun _ _ _ h => h) (Or.inl ⟨by rfl, ?yyxc3⟩) (by assumption) ?rrxc3
      case yyxc3 => (intro w' hSw; (try dsimp only at hSw); go_simp; (try with_reducible rfl))
      try simp only [Act.put, List.setIfInBounds_toArray, List.set_cons_zero, List.set_cons_succ]
      refine wpAnyH_take (i := 4) (v := ?vvxc4) rfl (by kernel_rfl) (by kernel_rfl) (by kernel_rfl) (fun _ _ _ h => h) (Or.inl ⟨by rfl, ?yyxc4⟩) (by assumption) ?rrxc4
      case yyxc4 => (intro w' hSw; (try dsimp only at hSw); go_simp; (try with_reducible rfl))
      try simp only [Act.put, List.setIfInBounds_toArray, List.set_cons_zero, List.set_cons_succ]
      refine wpAnyH_take (i := 5) (v := ?vvxc5) rfl (by kernel_rfl) (by kernel_rfl) (by kernel_rfl) (fun _ _ _ h => h) (Or.inl ⟨by rfl, ?yyxc5⟩) (by assumption) ?rrxc5
      case yyxc5 => (intro w' hSw; (try dsimp only at hSw); go_simp; (try with_reducible rfl))
      try simp only [Act.put, List.setIfInBounds_toArray, List.set_cons_zero, List.set_cons_succ]
      refine wpAnyH_take (i := 6) (v := ?vvxc6) rfl (by kernel_rfl) (by kernel_rfl) (by kernel_rfl) (fun _ _ _ h => h) (Or.inl ⟨by rfl, ?yyxc6⟩) (by assumption) ?rrxc6
      case yyxc6 => (intro w' hSw; (try dsimp only at hSw); go_simp; (try with_reducible rfl))
      try simp only [Act.put, List.setIfInBounds_toArray, List.set_cons_zero, List.set_cons_succ]
      refine wpAnyH_ready (rs := [1]) (by kernel_rfl) (by simp) (AllReadyH.cons rfl (fun K hK => ?_) AllReadyH.nil)
      go_simp
      have hS5 := hS0
      have cu := cell_keeps (Ch.drew (fun _ => False) wr) c3u
      go_simp
      clear hHeld
      refine hK.out _ _ ?hs (fun hHeld => ?_)
      case hs => (first | exact hS5 | trivial | ((try dsimp only); go_keep) | ((try dsimp only); simp [*, World.cell?_alloc_some, World.cell?_setCell_far, World.cell?_setCell_other]))
      clear hK K
      try simp only [Act.put, List.setIfInBounds_toArray, List.set_cons_zero, List.set_cons_succ]
      refine wpAnyH_ready (rs := [7]) (by kernel_rfl) (by simp) (AllReadyH.cons rfl (fun K hK => ?_) AllReadyH.nil)
      go_simp
      refine (HP _ (Ch.drew (fun _ => False) wr)).mono ?_
      clear HP
      rintro en w3 ⟨v', rfl, hF⟩
      obtain ⟨va, vc, hve, -⟩ := row_slice hF.1
      subst hve
      have hcx : Ch (fun _ => False) wr w3 := (Ch.drew (fun _ => False) wr).trans hF.2.1 (fun _ h => h.elim)
      have hS5 : (fun w' => w'.cell? ⟨tb, 3, none⟩ = some (.slice (some ⟨og, oo, none⟩) t.ops.length oc) ∧ w'.cell? ⟨og, oo + j, none⟩ = some (str s)) w3 := ⟨cell_keeps hcx c3t, cell_keeps hcx cs⟩
      have hB3 := hB.out.quiet hcx
      have hS6 := hS5
      obtain ⟨-, -, -, cu0, cu1, cu2, cu3, cu4, cuf⟩ := hB3.cells
      dsimp only
      clear hHeld
      refine hK.out _ _ ?hs (fun hHeld => ?_)
      case hs => (first | exact hS5 | trivial | ((try dsimp only); go_keep) | ((try dsimp only); simp [*, World.cell?_alloc_some, World.cell?_setCell_far, World.cell?_setCell_other]))
      clear hK K
      try simp only [Act.put, List.setIfInBounds_toArray, List.set_cons_zero, List.set_cons_succ]
      refine wpAnyH_take (i := 8) (v := ?vvxc7) rfl (by kernel_rfl) (by kernel_rfl) (by kernel_rfl) (fun _ _ _ h => h) (Or.inl ⟨by rfl, ?yyxc7⟩) (by assumption) ?rrxc7
      case yyxc7 => (intro w' hSw; (try dsimp only at hSw); go_simp; (try with_reducible rfl))
      try simp only [Act.put, List.setIfInBounds_toArray, List.set_cons_zero, List.set_cons_succ]
      refine wpAnyH_ready (rs := [9]) (by kernel_rfl) (by simp) (AllReadyH.cons rfl (fun K hK => ?_) AllReadyH.nil)
      go_simp
      have hB4 := hid (hB3.setOps (.slice va (ins s (joinB [] (t.ops.take j))).length vc))
      have hS5 : (fun w' => w'.cell? ⟨tb, 3, none⟩ = some (.slice (some ⟨og, oo, none⟩) t.ops.length oc) ∧ w'.cell? ⟨og, oo + j, none⟩ = some (str s)) (w3.setCell ⟨ub, 3, none⟩ (.slice va (ins s (joinB [] (t.ops.take j))).length vc)) := ⟨cell_ch (hc4 w3 _) hS6.1 ne1, cell_ch (hc4 w3 _) hS6.2 ne2⟩
      clear hHeld
      refine hK.out _ _ ?hs (fun hHeld => ?_)
      case hs => (first | exact hS5 | trivial | ((try dsimp only); go_keep) | ((try dsimp only); simp [*, World.cell?_alloc_some, World.cell?_setCell_far, World.cell?_setCell_other]))
      clear hK K
      try simp only [Act.put, List.setIfInBounds_toArray, List.set_cons_zero, List.set_cons_succ]
      refine wpAnyH_done (by kernel_rfl) ?_ _
      clear hHeld
      have hb4 : Hid (∀ k, (Value.slice va (ins s (joinB [] (t.ops.take j))).length vc).ownBlock = some k → w.heap.size ≤ k ∧ k ≠ ub ∧ k ≠ rb) := fun k hk => by
        have h1 := hF.2.2 k hk
        have h2 : wr.drew.heap.size = wr.heap.size := rfl
        obtain ⟨l1, l2, l3⟩ := hB.out.ltu
        have h3 := hB.out.ch.size
        exact ⟨by omega, by omega, by omega⟩
      have hSV4 : Hid (SV (w3.setCell ⟨ub, 3, none⟩ (.slice va (ins s (joinB [] (t.ops.take j))).length vc)) (.slice va (ins s (joinB [] (t.ops.take j))).length vc) (ins s (joinB [] (t.ops.take j)))) := hF.sv.keep (hc4 w3 _) (fun k hk e => (hb4.out k hk).2.1 e)
      clear hF hS0 hS5 hS6 hcx hB3 cu0 cu1 cu2 cu3 cu4 cuf c3t c3u cs
      go_wp2
      go_roundg (t.ops.length - j)
      case measure => omega
      case rel => exact ⟨j + 1, _, by simp, by omega, by omega, hB4, hid (by rw [hnx.out]; exact hSV4.out), hb4⟩
    · obtain rfl : j = t.ops.length := by omega
      have i1 : ¬ (t.ops.length : Int) < (t.ops.length : Int) := by omega
      have hsO : Srt t.ops := by
        cases t with
        | fn a b o r => exact Un.srt_of hok.out.2.2.2.2
        | _ => exact List.Pairwise.nil
      rw [List.take_length] at hSV hB hv
      have hjn : joinB [] t.ops = t.ops := Un.joinB_nil hsO
      have hjl0 : (joinB [] t.ops).length ≤ 300 := by rw [hjn]; omega
      replace hsO := hid hsO
      replace hjn := hid hjn
      by_cases er : t.row = 0
      · have er' : ¬ (0 : Int) < (t.row : Int) := by omega
        have hnm : Hid (joinB [] t.ops = (rowW t.ops (rho n Z) (rvOf t.row)).1) := by
          show _ = _
          rw [hjn.out, er]
          rfl
        have hrr : Hid (∀ q : Nat, (t.row : Int) = q → q = (rowW t.ops (rho n Z) (rvOf t.row)).2) := fun q hq => by
          rw [er] at hq ⊢
          show q = 0
          omega
        have hnl : (joinB [] t.ops).length ≤ 2000000 := by omega
        replace er := hid er
        have hw0w : w0.heap.size ≤ w.heap.size := hc0.out.size
        have hB5 : Hid (By5 w0 w wr tb rb ub t (.slice oa t.ops.length oc) (.slice aa (kidsT t).length ca) (t.row : Int) (.slice va0 (joinB [] t.ops).length vc0) (joinB [] t.ops) σ (rho n Z) (.slice none 0 0) []) := ⟨hB.out, hSV.out, hv.out, World.ownsRow_nil _ _ _ _, (fun k hk => by cases hk), (fun j x hj => by simp at hj)⟩
        have hk2 := kids_two t
        clear hB hSV hv
        go_wp2
        go_loopg [10] ((kidsT t).length + 1) (fun q v10 wq => ∃ (iq : Nat) (va : Value) (xs : List Raw), v10 = .int .i64 (iq : Nat) ∧ iq ≤ (kidsT t).length ∧ q = (kidsT t).length + 1 - iq ∧ Hid (xs.length = iq) ∧ Hid (By5 w0 w wq tb rb ub t (.slice oa t.ops.length oc) (.slice aa (kidsT t).length ca) (t.row : Int) (.slice va0 (joinB [] t.ops).length vc0) (joinB [] t.ops) σ (rho n Z) va xs))
        case atStart => exact ⟨0, .slice none 0 0, [], rfl, by omega, by omega, rfl, hB5⟩
        case round =>
          clear hB5
          obtain ⟨iq, va, xs, rfl, hi, rfl, hxl, hB5⟩ := hrel
          obtain ⟨c2t, c3t, c4t, c0u, c1u, c2u, c3u, c4u, cuf⟩ := hB5.out.b.cells
          by_cases e : iq < (kidsT t).length
          · have i0 : (0 : Int) ≤ iq := by omega
            have i1 : (iq : Int) < ((kidsT t).length : Int) := by omega
            have hwi : IntKind.i64.wrap ((iq : Int) + 1) = (iq : Int) + 1 := IntWalk.i64_in _ (by omega)
            obtain ⟨kid, hkid⟩ : ∃ kid, (kidsT t)[iq]? = some kid := ⟨_, List.getElem?_eq_getElem e⟩
            obtain ⟨ag, ao, ko, ka, rfl, hE, hI⟩ := hK.out iq kid hkid
            have hcr : Hid (Ch (fun _ => False) w0 wr) := hc0.out.trans hB5.out.b.ch (fun _ h => h.elim)
            have hmem := List.mem_of_getElem? hkid
            have hkp := kid_lt t kid hmem
            have HK := ih.out kid hmem σ w0 wr d a g o n c Z ko ka hcr.out ha.out hM.out hσ.out hI (kids_ok hok.out kid hmem) (by omega)
            obtain ⟨p0, p1, p2, p3, p4⟩ := hE.of_heap (hcr.out.same _ hE.lt (fun h => h))
            obtain ⟨qa, qc, qb, ql, qd, rfl, rfl, -⟩ := hI.slices
            have hkid' := hid hkid
            clear hE hI hkid hmem hkp
            go_upto_region 27 with (go_at_call 6; go_must (refine HK.mono ?_; clear HK; rintro en w5 ⟨⟨xk, xn, xr, xo, xa⟩, dx, rfl, hx, hc5, hu5⟩; obtain ⟨⟨x1, x2, x3, hx4⟩, ⟨x5, x6, x7, hx8⟩⟩ := (hx.rdd.rdb 1).up; simp only at hx4 hx8; subst hx4 hx8; replace hx := hid hx; replace hc5 := hid hc5; replace hu5 := hid hu5))
            have hcA : Hid (Ch (fun _ => False) wr (w5.alloc (tyB xk xn xr (.slice x1 x2 x3) (.slice x5 x6 x7)))) := hc5.out.trans (al_ch w5 _) (fun _ h => h.elim)
            have hcB : Hid (Ch (fun _ => False) wr ((w5.alloc (tyB xk xn xr (.slice x1 x2 x3) (.slice x5 x6 x7))).alloc (tyB xk xn xr (.slice x1 x2 x3) (.slice x5 x6 x7)))) := hcA.out.trans (al_ch _ _) (fun _ h => h.elim)
            obtain ⟨-, -, -, -, -, -, -, e4u, -⟩ := (hB5.out.b.quiet hcA.out).cells
            have hrow0 := ownsRow_keep hB5.out.row (w' := (w5.alloc (tyB xk xn xr (.slice x1 x2 x3) (.slice x5 x6 x7))).alloc (tyB xk xn xr (.slice x1 x2 x3) (.slice x5 x6 x7))) (fun k hk => hcB.out.same k (ownsRow_lt hB5.out.row hk) (fun h => h))
            have hbx := World.alloc_heap_new (w5.alloc (tyB xk xn xr (.slice x1 x2 x3) (.slice x5 x6 x7))) (tyB xk xn xr (.slice x1 x2 x3) (.slice x5 x6 x7))
            obtain ⟨g0, g1, g2, g3, g4⟩ := (ty_cells (World.alloc_heap_new w5 (tyB xk xn xr (.slice x1 x2 x3) (.slice x5 x6 x7)))).1
            obtain ⟨v8, w8, hr8, hrow8, hgrow8, hblk8⟩ := run_append_ty hrow0 hbx ⟨_, _, _, rfl⟩ ⟨_, _, _, rfl⟩ (by have := hxl.out; omega) 25
            have hnx := hid (hB5.out.next hw0w (by rw [hxl.out]; exact hkid'.out) hx.out hc5.out hu5.out hrow8 hgrow8 hblk8)
            obtain ⟨-, -, -, -, -, -, -, f4u, fuf⟩ := ((hB5.out.b.quiet hcB.out).far (Ch.grown (O := fun k => va.ownBlock = some k) hgrow8 (fun k hk => hk)) (fun k hk => hB5.out.bb k hk)).cells
            obtain ⟨a8, k8, hv8, -⟩ := row_slice hrow8
            subst hv8
            obtain ⟨va1, va2, hva, -⟩ := row_slice hB5.out.row
            subst hva
            rw [hxl.out] at hr8 hnx f4u e4u
            have hff := fuf 4
            clear hrow8 hgrow8 hblk8 hrow0 hbx hcA hcB hx hc5 hu5 hB5 fuf c2t c3t c4t c0u c1u c2u c3u c4u cuf p0 p1 p2 p3 p4
            generalize w5.alloc (tyB xk xn xr (.slice x1 x2 x3) (.slice x5 x6 x7)) = W6 at *
            generalize w5.heap.size = ab at *
            go_upto_region 28 with (at_builtin; go_must (refine wpList_append_run rfl (.tmp 118) (.tmp 120) 25 rfl rfl rfl hr8 ?_); clear hr8)
            go_roundg ((kidsT t).length - iq)
            case measure => omega
            case rel => exact ⟨iq + 1, _, xs ++ [⟨xk, xn, xr, .slice x1 x2 x3, .slice x5 x6 x7⟩], by simp, by omega, by omega, hid (by simp [hxl.out]), hnx⟩
          · obtain rfl : iq = (kidsT t).length := by omega
            have i1 : ¬ ((kidsT t).length : Int) < ((kidsT t).length : Int) := by omega
            obtain ⟨r0, r1, r2, r3, r4⟩ := (ty_cells hB5.out.b.br).1
            have rf := (ty_cells hB5.out.b.br).2
            obtain ⟨va1, va2, hva, -⟩ := row_slice hB5.out.row
            subst hva
            go_wp2
            refine bodyPost_ret (v := tyV t.kind t.num (t.row : Int) (.slice va0 (joinB [] t.ops).length vc0) (.slice va1 xs.length va2)) (by simp [results, Try.results6, go_sem, r0, r1, r2, r3, r4, rf]) rfl ?_
            exact hB5.out.fin h0 hxl.out (by have := hnl; omega) hnm.out hrr.out
      · have er' : (0 : Int) < (t.row : Int) := by omega
        go_wp2_with (fail)
        go_loopg [8] (n + 1) (fun q v8 wr => ∃ (i : Nat), v8 = .int .i64 (i : Nat) ∧ i ≤ n ∧ q = n + 1 - i ∧ Hid (∀ j, j < i → (Z j).row ≠ (t.row : Int)) ∧ Hid (ByS w wr tb rb ub t.kind t.num t.row (.slice oa t.ops.length oc) (.slice aa (kidsT t).length ca) t.row (.slice va0 (joinB [] t.ops).length vc0) (.slice none 0 0)) ∧ Hid (SV wr (.slice va0 (joinB [] t.ops).length vc0) (joinB [] t.ops)))
        case atStart => exact ⟨0, rfl, by omega, by omega, hid (fun j hj => absurd hj (by omega)), hB, hSV⟩
        case round =>
          clear hB hSV c2t c3t c4t c0u c1u c2u c3u c4u cuf
          obtain ⟨i, rfl, hi, rfl, hP, hB, hSV⟩ := hrel
          obtain ⟨c2t, c3t, c4t, c0u, c1u, c2u, c3u, c4u, cuf⟩ := hB.out.cells
          by_cases e : i < n
          · have i0 : (0 : Int) ≤ i := by omega
            have i1 : (i : Int) < (n : Int) := by omega
            have hwi : IntKind.i64.wrap ((i : Int) + 1) = (i : Int) + 1 := IntWalk.i64_in _ (by omega)
            obtain rfl := ha.out (by omega)
            have hcr : Hid (Ch (fun _ => False) w0 wr) := hc0.out.trans hB.out.ch (fun _ h => h.elim)
            obtain ⟨-, -, z3, z4, z5⟩ := (hM.out.c i e).keep hcr.out
            obtain ⟨oa2, oc2, hz2, hO3, hO4⟩ := id (hM.out.s i e)
            rw [hz2] at z4
            have hnm2 := hM.out.nl i e
            by_cases ez : (Z i).row = (t.row : Int)
            · rw [ez] at z3
              have hez := hid ez
              clear ez
              have cu2 := cuf 2
              go_wp2_with (go_quiet (fail))
              have hcq : Ch (fun _ => False) wr (wr.drewN nq) := (Ch.refl (fun _ => False) wr).dn nq
              have hB2 : Hid (ByS w ((wr.drewN nq).setCell ⟨ub, 2, none⟩ (.int .i64 (Z i).more)) tb rb ub t.kind t.num t.row (.slice oa t.ops.length oc) (.slice aa (kidsT t).length ca) (Z i).more (.slice va0 (joinB [] t.ops).length vc0) (.slice none 0 0)) := (hB.out.quiet hcq).setRow (Z i).more
              have hS2 : Hid (SV ((wr.drewN nq).setCell ⟨ub, 2, none⟩ (.int .i64 (Z i).more)) (.slice va0 (joinB [] t.ops).length vc0) (joinB [] t.ops)) := (hSV.out.keep hcq (fun _ _ h => h)).keep (hc4 _ _) (fun k hk e => (hv.out k hk).2.1 e)
              clear hB hSV hcr z3 z4 z5 cu2 c2t c3t c4t c0u c1u c2u c3u c4u cuf hcq
              generalize (wr.drewN nq).setCell ⟨ub, 2, none⟩ (.int .i64 (Z i).more) = W5 at *
              go_loopg [9] ((Z i).nm.length + 1) (fun q v9 wr => ∃ (j : Nat) (v : Value), v9 = .int .i64 (j : Nat) ∧ j ≤ (Z i).nm.length ∧ q = (Z i).nm.length + 1 - j ∧ Hid (ByS w wr tb rb ub t.kind t.num t.row (.slice oa t.ops.length oc) (.slice aa (kidsT t).length ca) (Z i).more v (.slice none 0 0)) ∧ Hid (SV wr v (joinB (joinB [] t.ops) ((Z i).nm.take j))) ∧ Hid (∀ k, v.ownBlock = some k → w.heap.size ≤ k ∧ k ≠ ub ∧ k ≠ rb))
              case atStart => exact ⟨0, _, rfl, by omega, by omega, hB2, hS2, hv⟩
              case round =>
                clear hB2 hS2
                obtain ⟨j, v, rfl, hj, rfl, hB, hSV, hv⟩ := hrel
                obtain ⟨va0, vc0, hve, -⟩ := id hSV.out
                subst hve
                have hcr : Hid (Ch (fun _ => False) w0 wr) := hc0.out.trans hB.out.ch (fun _ h => h.elim)
                obtain ⟨-, -, z3, z4, z5⟩ := (hM.out.c i e).keep hcr.out
                rw [hz2] at z4
                obtain ⟨c2t, c3t0, c4t, c0u, c1u, c2u, c3u, c4u, cuf⟩ := hB.out.cells
                by_cases ej : j < (Z i).nm.length
                · have j0 : (0 : Int) ≤ j := by omega
                  have j1 : (j : Int) < ((Z i).nm.length : Int) := by omega
                  have hwj : IntKind.i64.wrap ((j : Int) + 1) = (j : Int) + 1 := IntWalk.i64_in _ (by omega)
                  obtain ⟨og, oo, rfl, hog⟩ := hO4 (fun h => by rw [h] at ej; cases ej)
                  obtain ⟨s, hs⟩ : ∃ s, s = (Z i).nm[j] := ⟨_, rfl⟩
                  have cs := cell_keeps hcr.out (hog j ej)
                  rw [← hs] at cs
                  have c3t := z4
                  have hlt : og < w.heap.size := Nat.lt_of_lt_of_le (World.block_lt_of_cell? w0 ⟨og, oo + j, none⟩ (hog j ej)) hc0.out.size
                  have hgl : g < w.heap.size := Nat.lt_of_lt_of_le (World.block_lt_of_cell? w0 ⟨g, o + i * 9, none⟩ (hM.out.c i e).1) hc0.out.size
                  have ne1 : ¬ g = ub := by have := hB.out.lu; omega
                  have ne2 : ¬ og = ub := by have := hB.out.lu; omega
                  have hjl : (joinB (joinB [] t.ops) ((Z i).nm.take j)).length < 1000000000 := by rw [Un.joinB_length]; simp; omega
                  have HP := fun (W : World) (hW : Ch (fun _ => False) wr W) => put_any W (.slice va0 (joinB (joinB [] t.ops) ((Z i).nm.take j)).length vc0) (joinB (joinB [] t.ops) ((Z i).nm.take j)) s (hSV.out.keep hW (fun _ _ h => h)) hjl
                  have hnx : Hid (joinB (joinB [] t.ops) ((Z i).nm.take (j + 1)) = ins s (joinB (joinB [] t.ops) ((Z i).nm.take j))) := by
                    have := joinB_take ej (joinB [] t.ops)
                    rw [← hs] at this
                    exact this
                  clear hog hs c2t c4t c0u c1u c2u c4u z3 z5 z4
                  go_upto_region 22 with (fail)
                  have hS0 : (fun w' => w'.cell? ⟨g, o + i * 9 + 7, none⟩ = some (.slice (some ⟨og, oo, none⟩) (Z i).nm.length oc2) ∧ w'.cell? ⟨og, oo + j, none⟩ = some (str s)) wr.drew := ⟨cell_keeps (Ch.drew (fun _ => False) wr) c3t, cell_keeps (Ch.drew (fun _ => False) wr) cs⟩
                  refine wp_region_held_drew (S := (fun w' => w'.cell? ⟨g, o + i * 9 + 7, none⟩ = some (.slice (some ⟨og, oo, none⟩) (Z i).nm.length oc2) ∧ w'.cell? ⟨og, oo + j, none⟩ = some (str s))) (by kernel_rfl) (by first | trivial | ((try dsimp only); go_keep)) (fun hHeld => ?_)
                  refine wpAnyH_take (i := 0) (v := ?vvxd8) rfl (by kernel_rfl) (by kernel_rfl) (by kernel_rfl) (fun _ _ _ h => h) (Or.inl ⟨by rfl, ?yyxd8⟩) (by assumption) ?rrxd8
                  case yyxd8 => (intro w' hSw; (try dsimp only at hSw); go_simp; (try with_reducible rfl))
                  try simp only [Act.put, List.setIfInBounds_toArray, List.set_cons_zero, List.set_cons_succ]
                  refine wpAnyH_take (i := 2) (v := ?vvxd9) rfl (by kernel_rfl) (by kernel_rfl) (by kernel_rfl) (fun _ _ _ h => h) (Or.inl ⟨by rfl, ?yyxd9⟩) (by assumption) ?rrxd9
                  case yyxd9 => (intro w' hSw; (try dsimp only at hSw); go_simp; (try with_reducible rfl))
                  try simp only [Act.put, List.setIfInBounds_toArray, List.set_cons_zero, List.set_cons_succ]
                  refine wpAnyH_take (i := 3) (v := ?vvxd10) rfl (by kernel_rfl) (by kernel_rfl) (by kernel_rfl) (fun _ _ _ h => h) (Or.inl ⟨by rfl, ?yyxd10⟩) (by assumption) ?rrxd10
                  case yyxd10 => (intro w' hSw; (try dsimp only at hSw); go_simp; (try with_reducible rfl))
                  try simp only [Act.put, List.setIfInBounds_toArray, List.set_cons_zero, List.set_cons_succ]
                  refine wpAnyH_take (i := 4) (v := ?vvxd11) rfl (by kernel_rfl) (by kernel_rfl) (by kernel_rfl) (fun _ _ _ h => h) (Or.inl ⟨by rfl, ?yyxd11⟩) (by assumption) ?rrxd11
                  case yyxd11 => (intro w' hSw; (try dsimp only at hSw); go_simp; (try with_reducible rfl))
                  try simp only [Act.put, List.setIfInBounds_toArray, List.set_cons_zero, List.set_cons_succ]
                  refine wpAnyH_take (i := 5) (v := ?vvxd12) rfl (by kernel_rfl) (by kernel_rfl) (by kernel_rfl) (fun _ _ _ h => h) (Or.inl ⟨by rfl, ?yyxd12⟩) (by assumption) ?rrxd12
                  case yyxd12 => (intro w' hSw; (try dsimp only at hSw); go_simp; (try with_reducible rfl))
                  try simp only [Act.put, List.setIfInBounds_toArray, List.set_cons_zero, List.set_cons_succ]
                  refine wpAnyH_take (i := 6) (v := ?vvxd13) rfl (by kernel_rfl) (by kernel_rfl) (by kernel_rfl) (fun _ _ _ h => h) (Or.inl ⟨by rfl, ?yyxd13⟩) (by assumption) ?rrxd13
                  case yyxd13 => (intro w' hSw; (try dsimp only at hSw); go_simp; (try with_reducible rfl))
                  try simp only [Act.put, List.setIfInBounds_toArray, List.set_cons_zero, List.set_cons_succ]
                  refine wpAnyH_take (i := 7) (v := ?vvxd14) rfl (by kernel_rfl) (by kernel_rfl) (by kernel_rfl) (fun _ _ _ h => h) (Or.inl ⟨by rfl, ?yyxd14⟩) (by assumption) ?rrxd14
                  case yyxd14 => (intro w' hSw; (try dsimp only at hSw); go_simp; (try with_reducible rfl))
                  try simp only [Act.put, List.setIfInBounds_toArray, List.set_cons_zero, List.set_cons_succ]
                  refine wpAnyH_take (i := 8) (v := ?vvxd15) rfl (by kernel_rfl) (by kernel_rfl) (by kernel_rfl) (fun _ _ _ h => h) (Or.inl ⟨by rfl, ?yyxd15⟩) (by assumption) ?rrxd15
                  case yyxd15 => (intro w' hSw; (try dsimp only at hSw); go_simp; (try with_reducible rfl))
                  try simp only [Act.put, List.setIfInBounds_toArray, List.set_cons_zero, List.set_cons_succ]
                  refine wpAnyH_take (i := 9) (v := ?vvxd16) rfl (by kernel_rfl) (by kernel_rfl) (by kernel_rfl) (fun _ _ _ h => h) (Or.inl ⟨by rfl, ?yyxd16⟩) (by assumption) ?rrxd16
                  case yyxd16 => (intro w' hSw; (try dsimp only at hSw); go_simp; (try with_reducible rfl))
                  try simp only [Act.put, List.setIfInBounds_toArray, List.set_cons_zero, List.set_cons_succ]
                  refine wpAnyH_ready (rs := [1]) (by kernel_rfl) (by simp) (AllReadyH.cons rfl (fun K hK => ?_) AllReadyH.nil)
                  go_simp
                  have hS5 := hS0
                  have cu := cell_keeps (Ch.drew (fun _ => False) wr) c3u
                  go_simp
                  clear hHeld
                  refine hK.out _ _ ?hs (fun hHeld => ?_)
                  case hs => (first | exact hS5 | trivial | ((try dsimp only); go_keep) | ((try dsimp only); simp [*, World.cell?_alloc_some, World.cell?_setCell_far, World.cell?_setCell_other]))
                  clear hK K
                  try simp only [Act.put, List.setIfInBounds_toArray, List.set_cons_zero, List.set_cons_succ]
                  refine wpAnyH_ready (rs := [10]) (by kernel_rfl) (by simp) (AllReadyH.cons rfl (fun K hK => ?_) AllReadyH.nil)
                  go_simp
                  refine (HP _ (Ch.drew (fun _ => False) wr)).mono ?_
                  clear HP
                  rintro en w3 ⟨v', rfl, hF⟩
                  obtain ⟨va, vc, hve, -⟩ := row_slice hF.1
                  subst hve
                  have hcx : Ch (fun _ => False) wr w3 := (Ch.drew (fun _ => False) wr).trans hF.2.1 (fun _ h => h.elim)
                  have hS5 : (fun w' => w'.cell? ⟨g, o + i * 9 + 7, none⟩ = some (.slice (some ⟨og, oo, none⟩) (Z i).nm.length oc2) ∧ w'.cell? ⟨og, oo + j, none⟩ = some (str s)) w3 := ⟨cell_keeps hcx c3t, cell_keeps hcx cs⟩
                  have hB3 := hB.out.quiet hcx
                  have hS6 := hS5
                  obtain ⟨-, -, -, cu0, cu1, cu2, cu3, cu4, cuf⟩ := hB3.cells
                  dsimp only
                  clear hHeld
                  refine hK.out _ _ ?hs (fun hHeld => ?_)
                  case hs => (first | exact hS5 | trivial | ((try dsimp only); go_keep) | ((try dsimp only); simp [*, World.cell?_alloc_some, World.cell?_setCell_far, World.cell?_setCell_other]))
                  clear hK K
                  try simp only [Act.put, List.setIfInBounds_toArray, List.set_cons_zero, List.set_cons_succ]
                  refine wpAnyH_take (i := 11) (v := ?vvxd17) rfl (by kernel_rfl) (by kernel_rfl) (by kernel_rfl) (fun _ _ _ h => h) (Or.inl ⟨by rfl, ?yyxd17⟩) (by assumption) ?rrxd17
                  case yyxd17 => (intro w' hSw; (try dsimp only at hSw); go_simp; (try with_reducible rfl))
                  try simp only [Act.put, List.setIfInBounds_toArray, List.set_cons_zero, List.set_cons_succ]
                  refine wpAnyH_ready (rs := [12]) (by kernel_rfl) (by simp) (AllReadyH.cons rfl (fun K hK => ?_) AllReadyH.nil)
                  go_simp
                  have hB4 := hid (hB3.setOps (.slice va (ins s (joinB (joinB [] t.ops) ((Z i).nm.take j))).length vc))
                  have hS5 : (fun w' => w'.cell? ⟨g, o + i * 9 + 7, none⟩ = some (.slice (some ⟨og, oo, none⟩) (Z i).nm.length oc2) ∧ w'.cell? ⟨og, oo + j, none⟩ = some (str s)) (w3.setCell ⟨ub, 3, none⟩ (.slice va (ins s (joinB (joinB [] t.ops) ((Z i).nm.take j))).length vc)) := ⟨cell_ch (hc4 w3 _) hS6.1 ne1, cell_ch (hc4 w3 _) hS6.2 ne2⟩
                  clear hHeld
                  refine hK.out _ _ ?hs (fun hHeld => ?_)
                  case hs => (first | exact hS5 | trivial | ((try dsimp only); go_keep) | ((try dsimp only); simp [*, World.cell?_alloc_some, World.cell?_setCell_far, World.cell?_setCell_other]))
                  clear hK K
                  try simp only [Act.put, List.setIfInBounds_toArray, List.set_cons_zero, List.set_cons_succ]
                  refine wpAnyH_done (by kernel_rfl) ?_ _
                  clear hHeld
                  have hb4 : Hid (∀ k, (Value.slice va (ins s (joinB (joinB [] t.ops) ((Z i).nm.take j))).length vc).ownBlock = some k → w.heap.size ≤ k ∧ k ≠ ub ∧ k ≠ rb) := fun k hk => by
                    have h1 := hF.2.2 k hk
                    have h2 : wr.drew.heap.size = wr.heap.size := rfl
                    obtain ⟨l1, l2, l3⟩ := hB.out.ltu
                    have h3 := hB.out.ch.size
                    exact ⟨by omega, by omega, by omega⟩
                  have hSV4 : Hid (SV (w3.setCell ⟨ub, 3, none⟩ (.slice va (ins s (joinB (joinB [] t.ops) ((Z i).nm.take j))).length vc)) (.slice va (ins s (joinB (joinB [] t.ops) ((Z i).nm.take j))).length vc) (ins s (joinB (joinB [] t.ops) ((Z i).nm.take j)))) := hF.sv.keep (hc4 w3 _) (fun k hk e => (hb4.out k hk).2.1 e)
                  clear hF hS0 hS5 hS6 hcx hB3 cu0 cu1 cu2 cu3 cu4 cuf c3t c3u cs
                  go_wp2
                  go_roundg ((Z i).nm.length - j)
                  case measure => omega
                  case rel => exact ⟨j + 1, _, by simp, by omega, by omega, hB4, hid (by rw [hnx.out]; exact hSV4.out), hb4⟩
                · have hjn2 : (Z i).nm.length = j := by omega
                  subst hjn2
                  have j1 : ¬ ((Z i).nm.length : Int) < ((Z i).nm.length : Int) := by omega
                  rw [List.take_length] at hSV hB hv
                  have hrho : rho n Z t.row = (joinB [] (Z i).nm, (Z i).more.toNat) := rho_some e hez.out hP.out
                  have hnm : Hid (joinB (joinB [] t.ops) (Z i).nm = (rowW t.ops (rho n Z) (rvOf t.row)).1) := by
                    show _ = _
                    unfold rvOf
                    rw [if_neg er]
                    simp only [rowW]
                    rw [hrho, hjn.out]
                    exact Un.joinB_assoc (a := t.ops) (b := []) (c := (Z i).nm) hsO.out
                  have hrr : Hid (∀ q : Nat, (Z i).more = q → q = (rowW t.ops (rho n Z) (rvOf t.row)).2) := fun q hq => by
                    unfold rvOf
                    rw [if_neg er]
                    simp only [rowW]
                    rw [hrho]
                    show q = (Z i).more.toNat
                    omega
                  have hnl : (joinB (joinB [] t.ops) (Z i).nm).length ≤ 2000000 := by rw [Un.joinB_length]; omega
                  have hw0w : w0.heap.size ≤ w.heap.size := hc0.out.size
                  have hB5 : Hid (By5 w0 w wr tb rb ub t (.slice oa t.ops.length oc) (.slice aa (kidsT t).length ca) (Z i).more (.slice va0 (joinB (joinB [] t.ops) (Z i).nm).length vc0) (joinB (joinB [] t.ops) (Z i).nm) σ (rho n Z) (.slice none 0 0) []) := ⟨hB.out, hSV.out, hv.out, World.ownsRow_nil _ _ _ _, (fun k hk => by cases hk), (fun j x hj => by simp at hj)⟩
                  have hk2 := kids_two t
                  clear hB hSV hv
                  go_wp2
                  go_loopg [10] ((kidsT t).length + 1) (fun q v10 wq => ∃ (iq : Nat) (va : Value) (xs : List Raw), v10 = .int .i64 (iq : Nat) ∧ iq ≤ (kidsT t).length ∧ q = (kidsT t).length + 1 - iq ∧ Hid (xs.length = iq) ∧ Hid (By5 w0 w wq tb rb ub t (.slice oa t.ops.length oc) (.slice aa (kidsT t).length ca) (Z i).more (.slice va0 (joinB (joinB [] t.ops) (Z i).nm).length vc0) (joinB (joinB [] t.ops) (Z i).nm) σ (rho n Z) va xs))
                  case atStart => exact ⟨0, .slice none 0 0, [], rfl, by omega, by omega, rfl, hB5⟩
                  case round =>
                    clear hB5
                    obtain ⟨iq, va, xs, rfl, hi, rfl, hxl, hB5⟩ := hrel
                    obtain ⟨c2t, c3t, c4t, c0u, c1u, c2u, c3u, c4u, cuf⟩ := hB5.out.b.cells
                    by_cases e : iq < (kidsT t).length
                    · have i0 : (0 : Int) ≤ iq := by omega
                      have i1 : (iq : Int) < ((kidsT t).length : Int) := by omega
                      have hwi : IntKind.i64.wrap ((iq : Int) + 1) = (iq : Int) + 1 := IntWalk.i64_in _ (by omega)
                      obtain ⟨kid, hkid⟩ : ∃ kid, (kidsT t)[iq]? = some kid := ⟨_, List.getElem?_eq_getElem e⟩
                      obtain ⟨ag, ao, ko, ka, rfl, hE, hI⟩ := hK.out iq kid hkid
                      have hcr : Hid (Ch (fun _ => False) w0 wr) := hc0.out.trans hB5.out.b.ch (fun _ h => h.elim)
                      have hmem := List.mem_of_getElem? hkid
                      have hkp := kid_lt t kid hmem
                      have HK := ih.out kid hmem σ w0 wr d (some ⟨g, o, none⟩) g o n c Z ko ka hcr.out (fun _ => rfl) hM.out hσ.out hI (kids_ok hok.out kid hmem) (by omega)
                      obtain ⟨p0, p1, p2, p3, p4⟩ := hE.of_heap (hcr.out.same _ hE.lt (fun h => h))
                      obtain ⟨qa, qc, qb, ql, qd, rfl, rfl, -⟩ := hI.slices
                      have hkid' := hid hkid
                      clear hE hI hkid hmem hkp
                      go_upto_region 27 with (go_at_call 6; go_must (refine HK.mono ?_; clear HK; rintro en w5 ⟨⟨xk, xn, xr, xo, xa⟩, dx, rfl, hx, hc5, hu5⟩; obtain ⟨⟨x1, x2, x3, hx4⟩, ⟨x5, x6, x7, hx8⟩⟩ := (hx.rdd.rdb 1).up; simp only at hx4 hx8; subst hx4 hx8; replace hx := hid hx; replace hc5 := hid hc5; replace hu5 := hid hu5))
                      have hcA : Hid (Ch (fun _ => False) wr (w5.alloc (tyB xk xn xr (.slice x1 x2 x3) (.slice x5 x6 x7)))) := hc5.out.trans (al_ch w5 _) (fun _ h => h.elim)
                      have hcB : Hid (Ch (fun _ => False) wr ((w5.alloc (tyB xk xn xr (.slice x1 x2 x3) (.slice x5 x6 x7))).alloc (tyB xk xn xr (.slice x1 x2 x3) (.slice x5 x6 x7)))) := hcA.out.trans (al_ch _ _) (fun _ h => h.elim)
                      obtain ⟨-, -, -, -, -, -, -, e4u, -⟩ := (hB5.out.b.quiet hcA.out).cells
                      have hrow0 := ownsRow_keep hB5.out.row (w' := (w5.alloc (tyB xk xn xr (.slice x1 x2 x3) (.slice x5 x6 x7))).alloc (tyB xk xn xr (.slice x1 x2 x3) (.slice x5 x6 x7))) (fun k hk => hcB.out.same k (ownsRow_lt hB5.out.row hk) (fun h => h))
                      have hbx := World.alloc_heap_new (w5.alloc (tyB xk xn xr (.slice x1 x2 x3) (.slice x5 x6 x7))) (tyB xk xn xr (.slice x1 x2 x3) (.slice x5 x6 x7))
                      obtain ⟨g0, g1, g2, g3, g4⟩ := (ty_cells (World.alloc_heap_new w5 (tyB xk xn xr (.slice x1 x2 x3) (.slice x5 x6 x7)))).1
                      obtain ⟨v8, w8, hr8, hrow8, hgrow8, hblk8⟩ := run_append_ty hrow0 hbx ⟨_, _, _, rfl⟩ ⟨_, _, _, rfl⟩ (by have := hxl.out; omega) 25
                      have hnx := hid (hB5.out.next hw0w (by rw [hxl.out]; exact hkid'.out) hx.out hc5.out hu5.out hrow8 hgrow8 hblk8)
                      obtain ⟨-, -, -, -, -, -, -, f4u, fuf⟩ := ((hB5.out.b.quiet hcB.out).far (Ch.grown (O := fun k => va.ownBlock = some k) hgrow8 (fun k hk => hk)) (fun k hk => hB5.out.bb k hk)).cells
                      obtain ⟨a8, k8, hv8, -⟩ := row_slice hrow8
                      subst hv8
                      obtain ⟨va1, va2, hva, -⟩ := row_slice hB5.out.row
                      subst hva
                      rw [hxl.out] at hr8 hnx f4u e4u
                      have hff := fuf 4
                      clear hrow8 hgrow8 hblk8 hrow0 hbx hcA hcB hx hc5 hu5 hB5 fuf c2t c3t c4t c0u c1u c2u c3u c4u cuf p0 p1 p2 p3 p4
                      generalize w5.alloc (tyB xk xn xr (.slice x1 x2 x3) (.slice x5 x6 x7)) = W6 at *
                      generalize w5.heap.size = ab at *
                      go_upto_region 28 with (at_builtin; go_must (refine wpList_append_run rfl (.tmp 118) (.tmp 120) 25 rfl rfl rfl hr8 ?_); clear hr8)
                      go_roundg ((kidsT t).length - iq)
                      case measure => omega
                      case rel => exact ⟨iq + 1, _, xs ++ [⟨xk, xn, xr, .slice x1 x2 x3, .slice x5 x6 x7⟩], by simp, by omega, by omega, hid (by simp [hxl.out]), hnx⟩
                    · obtain rfl : iq = (kidsT t).length := by omega
                      have i1 : ¬ ((kidsT t).length : Int) < ((kidsT t).length : Int) := by omega
                      obtain ⟨r0, r1, r2, r3, r4⟩ := (ty_cells hB5.out.b.br).1
                      have rf := (ty_cells hB5.out.b.br).2
                      obtain ⟨va1, va2, hva, -⟩ := row_slice hB5.out.row
                      subst hva
                      go_wp2
                      refine bodyPost_ret (v := tyV t.kind t.num (Z i).more (.slice va0 (joinB (joinB [] t.ops) (Z i).nm).length vc0) (.slice va1 xs.length va2)) (by simp [results, Try.results6, go_sem, r0, r1, r2, r3, r4, rf]) rfl ?_
                      exact hB5.out.fin h0 hxl.out (by have := hnl; omega) hnm.out hrr.out
            · go_wp2_with (go_quiet (fail))
              go_roundg (n - i)
              case measure => omega
              case rel =>
                have hcq : Ch (fun _ => False) wr (wr.drewN nq) := (Ch.refl (fun _ => False) wr).dn nq
                refine ⟨i + 1, by simp, by omega, by omega, hid (fun j hj => ?_), hid (hB.out.quiet hcq), hid (hSV.out.keep hcq (fun _ _ h => h))⟩
                by_cases ej : j = i
                · subst ej; exact ez
                · exact hP.out j (by omega)
          · have hin : n = i := by omega
            subst hin
            have i1 : ¬ (n : Int) < (n : Int) := by omega
            have hrho : rho n Z t.row = ([], t.row) := rho_none hP.out
            have hnm : Hid (joinB [] t.ops = (rowW t.ops (rho n Z) (rvOf t.row)).1) := by
              show _ = _
              unfold rvOf
              rw [if_neg er]
              simp only [rowW]
              rw [hrho, hjn.out]
              rfl
            have hrr : Hid (∀ q : Nat, (t.row : Int) = q → q = (rowW t.ops (rho n Z) (rvOf t.row)).2) := fun q hq => by
              unfold rvOf
              rw [if_neg er]
              simp only [rowW]
              rw [hrho]
              show q = t.row
              omega
            have hnl : (joinB [] t.ops).length ≤ 2000000 := by omega
            have hw0w : w0.heap.size ≤ w.heap.size := hc0.out.size
            have hB5 : Hid (By5 w0 w wr tb rb ub t (.slice oa t.ops.length oc) (.slice aa (kidsT t).length ca) (t.row : Int) (.slice va0 (joinB [] t.ops).length vc0) (joinB [] t.ops) σ (rho n Z) (.slice none 0 0) []) := ⟨hB.out, hSV.out, hv.out, World.ownsRow_nil _ _ _ _, (fun k hk => by cases hk), (fun j x hj => by simp at hj)⟩
            have hk2 := kids_two t
            clear hB hSV hv
            go_wp2
            go_loopg [10] ((kidsT t).length + 1) (fun q v10 wq => ∃ (iq : Nat) (va : Value) (xs : List Raw), v10 = .int .i64 (iq : Nat) ∧ iq ≤ (kidsT t).length ∧ q = (kidsT t).length + 1 - iq ∧ Hid (xs.length = iq) ∧ Hid (By5 w0 w wq tb rb ub t (.slice oa t.ops.length oc) (.slice aa (kidsT t).length ca) (t.row : Int) (.slice va0 (joinB [] t.ops).length vc0) (joinB [] t.ops) σ (rho n Z) va xs))
            case atStart => exact ⟨0, .slice none 0 0, [], rfl, by omega, by omega, rfl, hB5⟩
            case round =>
              clear hB5
              obtain ⟨iq, va, xs, rfl, hi, rfl, hxl, hB5⟩ := hrel
              obtain ⟨c2t, c3t, c4t, c0u, c1u, c2u, c3u, c4u, cuf⟩ := hB5.out.b.cells
              by_cases e : iq < (kidsT t).length
              · have i0 : (0 : Int) ≤ iq := by omega
                have i1 : (iq : Int) < ((kidsT t).length : Int) := by omega
                have hwi : IntKind.i64.wrap ((iq : Int) + 1) = (iq : Int) + 1 := IntWalk.i64_in _ (by omega)
                obtain ⟨kid, hkid⟩ : ∃ kid, (kidsT t)[iq]? = some kid := ⟨_, List.getElem?_eq_getElem e⟩
                obtain ⟨ag, ao, ko, ka, rfl, hE, hI⟩ := hK.out iq kid hkid
                have hcr : Hid (Ch (fun _ => False) w0 wr) := hc0.out.trans hB5.out.b.ch (fun _ h => h.elim)
                have hmem := List.mem_of_getElem? hkid
                have hkp := kid_lt t kid hmem
                have HK := ih.out kid hmem σ w0 wr d a g o n c Z ko ka hcr.out ha.out hM.out hσ.out hI (kids_ok hok.out kid hmem) (by omega)
                obtain ⟨p0, p1, p2, p3, p4⟩ := hE.of_heap (hcr.out.same _ hE.lt (fun h => h))
                obtain ⟨qa, qc, qb, ql, qd, rfl, rfl, -⟩ := hI.slices
                have hkid' := hid hkid
                clear hE hI hkid hmem hkp
                go_upto_region 27 with (go_at_call 6; go_must (refine HK.mono ?_; clear HK; rintro en w5 ⟨⟨xk, xn, xr, xo, xa⟩, dx, rfl, hx, hc5, hu5⟩; obtain ⟨⟨x1, x2, x3, hx4⟩, ⟨x5, x6, x7, hx8⟩⟩ := (hx.rdd.rdb 1).up; simp only at hx4 hx8; subst hx4 hx8; replace hx := hid hx; replace hc5 := hid hc5; replace hu5 := hid hu5))
                have hcA : Hid (Ch (fun _ => False) wr (w5.alloc (tyB xk xn xr (.slice x1 x2 x3) (.slice x5 x6 x7)))) := hc5.out.trans (al_ch w5 _) (fun _ h => h.elim)
                have hcB : Hid (Ch (fun _ => False) wr ((w5.alloc (tyB xk xn xr (.slice x1 x2 x3) (.slice x5 x6 x7))).alloc (tyB xk xn xr (.slice x1 x2 x3) (.slice x5 x6 x7)))) := hcA.out.trans (al_ch _ _) (fun _ h => h.elim)
                obtain ⟨-, -, -, -, -, -, -, e4u, -⟩ := (hB5.out.b.quiet hcA.out).cells
                have hrow0 := ownsRow_keep hB5.out.row (w' := (w5.alloc (tyB xk xn xr (.slice x1 x2 x3) (.slice x5 x6 x7))).alloc (tyB xk xn xr (.slice x1 x2 x3) (.slice x5 x6 x7))) (fun k hk => hcB.out.same k (ownsRow_lt hB5.out.row hk) (fun h => h))
                have hbx := World.alloc_heap_new (w5.alloc (tyB xk xn xr (.slice x1 x2 x3) (.slice x5 x6 x7))) (tyB xk xn xr (.slice x1 x2 x3) (.slice x5 x6 x7))
                obtain ⟨g0, g1, g2, g3, g4⟩ := (ty_cells (World.alloc_heap_new w5 (tyB xk xn xr (.slice x1 x2 x3) (.slice x5 x6 x7)))).1
                obtain ⟨v8, w8, hr8, hrow8, hgrow8, hblk8⟩ := run_append_ty hrow0 hbx ⟨_, _, _, rfl⟩ ⟨_, _, _, rfl⟩ (by have := hxl.out; omega) 25
                have hnx := hid (hB5.out.next hw0w (by rw [hxl.out]; exact hkid'.out) hx.out hc5.out hu5.out hrow8 hgrow8 hblk8)
                obtain ⟨-, -, -, -, -, -, -, f4u, fuf⟩ := ((hB5.out.b.quiet hcB.out).far (Ch.grown (O := fun k => va.ownBlock = some k) hgrow8 (fun k hk => hk)) (fun k hk => hB5.out.bb k hk)).cells
                obtain ⟨a8, k8, hv8, -⟩ := row_slice hrow8
                subst hv8
                obtain ⟨va1, va2, hva, -⟩ := row_slice hB5.out.row
                subst hva
                rw [hxl.out] at hr8 hnx f4u e4u
                have hff := fuf 4
                clear hrow8 hgrow8 hblk8 hrow0 hbx hcA hcB hx hc5 hu5 hB5 fuf c2t c3t c4t c0u c1u c2u c3u c4u cuf p0 p1 p2 p3 p4
                generalize w5.alloc (tyB xk xn xr (.slice x1 x2 x3) (.slice x5 x6 x7)) = W6 at *
                generalize w5.heap.size = ab at *
                go_upto_region 28 with (at_builtin; go_must (refine wpList_append_run rfl (.tmp 118) (.tmp 120) 25 rfl rfl rfl hr8 ?_); clear hr8)
                go_roundg ((kidsT t).length - iq)
                case measure => omega
                case rel => exact ⟨iq + 1, _, xs ++ [⟨xk, xn, xr, .slice x1 x2 x3, .slice x5 x6 x7⟩], by simp, by omega, by omega, hid (by simp [hxl.out]), hnx⟩
              · obtain rfl : iq = (kidsT t).length := by omega
                have i1 : ¬ ((kidsT t).length : Int) < ((kidsT t).length : Int) := by omega
                obtain ⟨r0, r1, r2, r3, r4⟩ := (ty_cells hB5.out.b.br).1
                have rf := (ty_cells hB5.out.b.br).2
                obtain ⟨va1, va2, hva, -⟩ := row_slice hB5.out.row
                subst hva
                go_wp2
                refine bodyPost_ret (v := tyV t.kind t.num (t.row : Int) (.slice va0 (joinB [] t.ops).length vc0) (.slice va1 xs.length va2)) (by simp [results, Try.results6, go_sem, r0, r1, r2, r3, r4, rf]) rfl ?_
                exact hB5.out.fin h0 hxl.out (by have := hnl; omega) hnm.out hrr.out
end Go.Proofs.Ytcogpcalghfghaa
