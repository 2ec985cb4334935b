/-
  The statement Split, as a call: for every two texts it answers true, and nothing that was there has turned.
-/
import Derived.Test.YtkckmfnmdkfkaaaDoorAns
import Derived.Deep.Cut
namespace Go.Proofs.YtkckmfnmdkfkaaaDoor
open Go.RowKit

/-- The program's Tokens, its answer named. -/
theorem ltok (s : ByteArray) {fk fp : Nat} {ts : List Lx.Tk} (hA : answer s = (fk, fp, ts)) (w : World) (ev : Value) (hmax : s.size ≤ 140737488351232) (hv : w.cell? ⟨2, 0, none⟩ = some ev) (hev : ev = .nilIface ∨ ∃ te pe, ev = .iface te pe) :
    Calls Tryd.prog 5 #[.string s] w fun e w' => ∃ v, e = .returned (.tuple #[v, .agg #[.int .i64 fk, .int .i64 fp]]) ∧ w'.ownsRow w.heap.size 31 4 v ts.length (cellsOf ts) ∧ Below w.heap.size w w' := by
  refine (ltokens_any s w ev hmax (World.block_lt_of_cell? w ⟨2, 0, none⟩ hv) hv hev).mono ?_
  intro e w' h
  exact tokPost_out hA h

set_option maxRecDepth 100000 in
set_option maxHeartbeats 2000000 in
theorem split_call (s t : ByteArray) (w : World) (ev : Value) (hs : s.size ≤ 140737488351232) (ht : t.size ≤ 140737488351232) (hv : w.cell? ⟨2, 0, none⟩ = some ev) (hev : ev = .nilIface ∨ ∃ te pe, ev = .iface te pe) :
    Calls Tryd.prog 4 #[.string s, .string t] w fun e w' => e = .returned (.bool true) ∧ Below w.heap.size w w' := by
  obtain ⟨i0, hi, hz0, hzs, hz2⟩ := info_parts Tryd.info31
  obtain ⟨tk, tp, us, hAt⟩ : ∃ tk tp us, answer t = (tk, tp, us) := ⟨_, _, _, rfl⟩
  obtain ⟨fk, fp, ts, hAs⟩ : ∃ fk fp ts, answer s = (fk, fp, ts) := ⟨_, _, _, rfl⟩
  have HAT := hid hAt
  have HAS := hid hAs
  have HV := hid hv
  have h2 : 2 < w.heap.size := World.block_lt_of_cell? w ⟨2, 0, none⟩ hv
  clear hAt hAs hv
  go_enter Tryd.func4, Tryd.ntmps4
  go_wp2_with fail
  refine (ltok _ answer_a _ ev (by decide) HV.out hev).mono ?_
  rintro e w1 ⟨va, rfl, hoa, hb1⟩
  obtain ⟨g, cap, rfl⟩ : ∃ g cap, va = .slice (some ⟨g, 0, none⟩) 2 cap := by
    rcases forms hoa with ⟨_, h⟩ | h
    · simp at h
    · exact h
  obtain ⟨a0, a1, a2, a3⟩ := row_cells hoa rfl 0 (by simp)
  simp only [List.getElem_cons_zero, Nat.zero_mul, Nat.zero_add] at a0 a1 a2 a3
  have hg1 : g < w1.heap.size := World.block_lt_of_cell? w1 ⟨g, 0, none⟩ a0
  have HB1 := hid hb1
  have hz1 := hb1.size
  have HV1 := hid ((hb1.cell (p := ⟨2, 0, none⟩) h2).trans HV.out)
  clear hoa hb1
  go_wp2_with fail
  have HF1 := hid (Flt.new w1 (.int .i64 0) (.int .i64 0) 25)
  have HW1 := hid (HB1.out.alloc hz1 (.cells #[.int .i64 0, .int .i64 0] 25))
  clear a0 a1 a2 a3 hg1 HB1 HV1
  generalize w1.alloc (Obj.cells #[.int .i64 0, .int .i64 0] 25) = W1 at *
  generalize w1.heap.size = F at *
  refine (ltok s HAS.out _ ev hs ((HW1.out.cell (p := ⟨2, 0, none⟩) h2).trans HV.out) hev).mono ?_
  rintro e w2 ⟨v2, rfl, ho2, hb2⟩
  have HF2 := hid (HF1.out.below hb2 HF1.out.lt)
  have HO2 := hid (own_store ho2 (own_ne ho2 (.inl HF1.out.lt)) (.int .i64 fk) (.int .i64 fp))
  have HF3 := hid (HF2.out.store (.int .i64 fk) (.int .i64 fp))
  have HW2 := hid (below_store (HW1.out.trans (hb2.mono HW1.out.size)) hz1 (.int .i64 fk) (.int .i64 fp))
  obtain ⟨⟨c0, c1⟩, f0, f1⟩ := HF2.out
  clear ho2 hb2
  go_wp2_with fail
  clear c0 c1 f0 f1 HF2
  generalize (w2.setCell ⟨F, 0, none⟩ (.int .i64 fk)).setCell ⟨F, 1, none⟩ (.int .i64 fp) = W2 at *
  refine (ltok t HAT.out _ ev ht ((HW2.out.cell (p := ⟨2, 0, none⟩) h2).trans HV.out) hev).mono ?_
  rintro e w3 ⟨v3, rfl, ho3, hb3⟩
  have HO2b := hid (own_below HO2.out hb3)
  have HO3 := hid ho3
  have HF4 := hid (HF3.out.below hb3 HF3.out.lt)
  have HW3 := hid (HW2.out.trans (hb3.mono HW2.out.size))
  obtain ⟨⟨c0, c1⟩, f0, f1⟩ := HF4.out
  have hF3 := HF4.out.lt
  have hz3 := HW3.out.size
  clear ho3 hb3
  rcases answer_shape s with ⟨k', p', hsh, hk1⟩ | ⟨hs3, body, hsh, hgood, hlex, hbl⟩
  · obtain ⟨rfl, rfl, rfl⟩ : fk = k' ∧ fp = p' ∧ ts = [] := by
      have := HAS.out.symm.trans hsh
      simp only [Prod.mk.injEq] at this
      exact ⟨this.1, this.2.1, this.2.2⟩
    have hne : ((fk : Int) != 0) = true := by simp; omega
    clear hsh
    rcases forms HO2b.out with ⟨rfl, _⟩ | ⟨g2, cap2, rfl⟩
    all_goals
      go_wp2_with fail
      go_ret
      exact ⟨rfl, HW3.out.alloc hz3 _⟩
  · obtain ⟨rfl, rfl, rfl⟩ : fk = 0 ∧ fp = 0 ∧ ts = body ++ [⟨0, s.size, [], 0⟩] := by
      have := HAS.out.symm.trans hsh
      simp only [Prod.mk.injEq] at this
      exact ⟨this.1, this.2.1, this.2.2⟩
    obtain ⟨g2, cap2, rfl⟩ : ∃ g cap, v2 = .slice (some ⟨g, 0, none⟩) (body.length + 1) cap := by
      rcases forms HO2b.out with ⟨_, h⟩ | h
      · simp at h
      · simpa using h
    have HG := hid hgood
    have HLX := hid hlex
    have hne0 : ((body.length : Int) + 1 == 0) = false := by simp; omega
    clear hsh hgood hlex
    go_wp2_with fail
    clear hne0
    have HG3 := hid (Flt.new w3 (.int .i64 tk) (.int .i64 tp) 25)
    have HO2c := hid (HO2b.out.alloc (.cells #[.int .i64 tk, .int .i64 tp] 25))
    have HO3c := hid (HO3.out.alloc (.cells #[.int .i64 tk, .int .i64 tp] 25))
    have HW4 := hid (HW3.out.alloc hz3 (.cells #[.int .i64 tk, .int .i64 tp] 25))
    clear c0 c1 f0 f1 HF4 HO2b HO3 HW3 HF3 HF1 HO2 HW1 hF3
    have hGw := hz3
    generalize w3.alloc (Obj.cells #[.int .i64 tk, .int .i64 tp] 25) = W3 at *
    generalize w3.heap.size = G at *
    go_loopw [10, 11] (fun x i wr => ∃ k : Nat, i = .int .i64 k ∧ k ≤ body.length ∧ x = .string ⟨(saidAll (body.take k)).toArray⟩ ∧ Below W3.heap.size W3 wr) (fun _ i _ => body.length - (intOf i).toNat)
    case atStart => exact ⟨0, rfl, Nat.zero_le _, rfl, Below.refl _ _⟩
    case round =>
      obtain ⟨k, rfl, hk, rfl, hbr⟩ := hrel
      by_cases hlt : k < body.length
      · obtain ⟨a0, a1, a2, a3⟩ := body_cells (own_below HO2c.out hbr) k hlt
        have HSN := hid (said_snoc body k hlt)
        have hX := said_bound HG.out hbl k
        obtain ⟨hS, hk1, hk4⟩ := good_said (HG.out body[k] (List.getElem_mem hlt))
        have HGK := hid (HG.out body[k] (List.getElem_mem hlt))
        generalize saidAll (body.take k) = X at *
        generalize body[k] = b at *
        have hb1 : (1 : Int) ≤ b.kind := by omega
        have hb4 : (b.kind : Int) ≤ 4 := by omega
        have HBR := hid hbr
        clear hbr
        go_wp2_with (go_at_call 8; refine (said_any b _ HGK.out).mono ?_; rintro e w5 ⟨rfl, hb5⟩)
        go_roundw
        case rel => exact ⟨k + 1, by go_num, by omega, by rw [HSN.out, ← app_two], HBR.out.trans (hb5.mono HBR.out.size)⟩
        case measure => simp [intOf]; omega
      · have hke : body.take k = body := List.take_of_length_le (by omega)
        have hXb := said_bound HG.out hbl k
        rw [hke] at hXb ⊢
        have HO2d := hid (own_below HO2c.out hbr)
        have HO3d := hid (own_below HO3c.out hbr)
        have HG4 := hid (HG3.out.below hbr HG3.out.lt)
        have HW5 := hid (HW4.out.trans (hbr.mono HW4.out.size))
        clear hbr hke HO2c HO3c HG3 HW4
        have hXs : (⟨(saidAll body).toArray⟩ : ByteArray).size ≤ 140737488351232 := by rw [mk_size]; omega
        have HXS := hid hXs
        clear hXs
        by_cases hlong : (saidAll body).length ≤ 3000
        · obtain ⟨ks, hks, hst⟩ := said_answer (z := ⟨0, s.size, [], 0⟩) rfl HG.out hlong
          have HKS := hid hks
          have HSTR := hid hst
          have hkl : ks.length ≤ 10000 := by
            have := congrArg List.length hst
            simp at this
            omega
          clear hks hst
          generalize saidAll body = X at *
          have hl3 : (X.length : Int) ≤ 3000 := by omega
          go_wp2_with fail
          refine (ltok _ HKS.out _ ev HXS.out ((HW5.out.cell (p := ⟨2, 0, none⟩) h2).trans HV.out) hev).mono ?_
          rintro e w6 ⟨v6, rfl, ho6, hb6⟩
          have HO6 := hid ho6
          have HO2e := hid (own_below HO2d.out hb6)
          have HO3e := hid (own_below HO3d.out hb6)
          have HG5 := hid (HG4.out.below hb6 HG4.out.lt)
          have HW6 := hid (HW5.out.trans (hb6.mono HW5.out.size))
          obtain ⟨⟨c0, c1⟩, f0, f1⟩ := HG5.out
          have hG6 := HG5.out.lt
          have hz6 := HW6.out.size
          clear ho6 hb6 HO2d HO3d HG4 HW5
          by_cases htk : tk = 0
          · subst htk
            obtain ⟨ht3, ub, hus, hlt2, hul⟩ : t.size ≤ 3000 ∧ ∃ ub, us = ub ++ [(⟨0, t.size, [], 0⟩ : Lx.Tk)] ∧ Lx.lex t.size 0 t.data.toList = .ok us ∧ us.length ≤ 3001 := by
              rcases answer_shape t with ⟨k', p', hsh, hk1⟩ | ⟨ht3, ub, hsh, _, hlx, hub⟩
              · have := HAT.out.symm.trans hsh
                simp only [Prod.mk.injEq] at this
                omega
              · have := HAT.out.symm.trans hsh
                simp only [Prod.mk.injEq] at this
                exact ⟨ht3, ub, this.2.2, by rw [this.2.2]; exact hlx, by rw [this.2.2]; simp; omega⟩
            have HLT := hid hlt2
            obtain ⟨g3, cap3, rfl⟩ : ∃ g cap, v3 = .slice (some ⟨g, 0, none⟩) us.length cap := by
              rcases forms HO3e.out with ⟨_, h⟩ | h
              · rw [hus] at h; simp at h
              · exact h
            clear hlt2 hus
            go_upto_region 20 with (go_at_call 9; refine (alike_any ks (body ++ [⟨0, s.size, [], 0⟩]) _ _ _ _ _ (HO6.out.alloc _) (HO2e.out.alloc _) HSTR.out hkl).mono ?_; rintro e w7 ⟨rfl, nq, rfl⟩)
            have HW7 := hid (below_drewN (HW6.out.alloc hz6 (.cells #[.int .i64 0, .int .i64 0] 25)) nq)
            have HH7 := hid (show Flt ((w6.alloc (.cells #[.int .i64 0, .int .i64 0] 25)).drewN nq) w6.heap.size (.int .i64 0) (.int .i64 0) from Flt.new w6 (.int .i64 0) (.int .i64 0) 25)
            have HO2f := hid (show ((w6.alloc (.cells #[.int .i64 0, .int .i64 0] 25)).drewN nq).ownsRow _ 31 4 _ _ _ from HO2e.out.alloc (.cells #[.int .i64 0, .int .i64 0] 25))
            have HO3f := hid (show ((w6.alloc (.cells #[.int .i64 0, .int .i64 0] 25)).drewN nq).ownsRow _ 31 4 _ _ _ from HO3e.out.alloc (.cells #[.int .i64 0, .int .i64 0] 25))
            have HGf := hid (show Flt ((w6.alloc (.cells #[.int .i64 0, .int .i64 0] 25)).drewN nq) G _ _ from HG5.out.alloc (.cells #[.int .i64 0, .int .i64 0] 25))
            have HN2 := hid (own_ne HO2e.out (F := w6.heap.size) (.inr (Nat.le_refl _)))
            have HN3 := hid (own_ne HO3e.out (F := w6.heap.size) (.inr (Nat.le_refl _)))
            clear c0 c1 f0 f1 HG5 HO2e HO3e
            have hHw := hz6
            generalize (w6.alloc (Obj.cells #[.int .i64 0, .int .i64 0] 25)).drewN nq = W7 at *
            generalize w6.heap.size = H at *
            obtain ⟨⟨c0, c1⟩, f0, f1⟩ := HGf.out
            have hG7 := HGf.out.lt
            by_cases hsum : 3000 < s.size + t.size + 1
            · have hsum' : (3000 : Int) < (s.size : Int) + t.size + 1 := by omega
              go_wp2_with fail
              go_ret
              exact ⟨rfl, HW7.out⟩
            · have hsum' : (s.size : Int) + t.size + 1 ≤ 3000 := by omega
              obtain ⟨js, hjs, hjst⟩ := join_answer HLX.out HLT.out (by omega)
              have HJS := hid hjs
              have HJT := hid hjst
              have hjl : js.length ≤ 10000 := by
                have := congrArg List.length hjst
                simp at this
                omega
              have hjz : ((s ++ ⟨#[10]⟩) ++ t).size ≤ 140737488351232 := by
                rw [ByteArray.size_append, ByteArray.size_append]
                show s.size + 1 + t.size ≤ _
                omega
              have HJZ := hid hjz
              clear hjs hjst hjz
              go_wp2_with fail
              refine (ltok _ HJS.out _ ev HJZ.out ((HW7.out.cell (p := ⟨2, 0, none⟩) h2).trans HV.out) hev).mono ?_
              rintro e w8 ⟨v8, rfl, ho8, hb8⟩
              have HO2g := hid (own_store (own_below HO2f.out hb8) HN2.out (.int .i64 0) (.int .i64 0))
              have HO3g := hid (own_store (own_below HO3f.out hb8) HN3.out (.int .i64 0) (.int .i64 0))
              have HO8 := hid (own_store ho8 (own_ne ho8 (.inl HH7.out.lt)) (.int .i64 0) (.int .i64 0))
              have HH8 := hid (HH7.out.below hb8 HH7.out.lt)
              have HH9 := hid (HH8.out.store (.int .i64 0) (.int .i64 0))
              have HW8 := hid (below_store (HW7.out.trans (hb8.mono HW7.out.size)) hHw (.int .i64 0) (.int .i64 0))
              clear c0 c1 f0 f1 ho8 hb8
              obtain ⟨⟨c0, c1⟩, f0, f1⟩ := HH8.out
              go_upto_region 23 with (fail)
              clear c0 c1 f0 f1 HH8
              generalize (w8.setCell ⟨H, 0, none⟩ (.int .i64 0)).setCell ⟨H, 1, none⟩ (.int .i64 0) = W8 at *
              have hB8 := HW8.out.size
              have hcap : body.length ≤ cap2 := by have := own_cap HO2g.out; omega
              have hlt2 := HO2g.out.lt
              have HL2 := hid (fun k hk => (HO2g.out.lt k hk).2)
              have HL3 := hid (fun k hk => (HO3g.out.lt k hk).2)
              have HL8 := hid (fun k hk => (HO8.out.lt k hk).2)
              clear hlt2
              go_upto_region 24 with (first
                | (at_builtin; refine wpList_append_own _ rfl (.tmp 129) (.tmp 134) 22 rfl W8.heap.size 31 i0 (.agg #[.int .i64 0, .int .i64 0, .string ⟨#[]⟩, .int .i64 0]) 4 40 Tryd.underlying22 hi hz0 hzs hz2 rfl (by decide) (.slice (some ⟨W8.heap.size, 0, none⟩) 0 0) 0 [] rfl (by exact World.ownsRow_made W8 #[] 0 (Nat.le_refl _) (by unfold maxLen; omega) rfl) ⟨g2, 0, none⟩ body.length cap2 (cellsOf body) rfl (cellsOf_len _) (by exact front_cells (HO2g.out.alloc _)) (cellsOf_one _) (by unfold maxLen; omega) (by omega) (by simp) ?_; intro v9 w9 ho9 hg9 _)
                | (at_builtin; refine wpList_append_own _ rfl (.tmp 135) (.tmp 136) 22 rfl W8.heap.size 31 i0 (.agg #[.int .i64 0, .int .i64 0, .string ⟨#[]⟩, .int .i64 0]) 4 40 Tryd.underlying22 hi hz0 hzs hz2 rfl (by decide) v9 (0 + body.length) ([] ++ cellsOf body) rfl ho9 ⟨g3, 0, none⟩ us.length cap3 (cellsOf us) rfl (cellsOf_len _) (by exact (own_past (HO3g.out.alloc _) hg9 HL3.out (own_new _)).cells (g := g3) rfl) (cellsOf_one _) (by unfold maxLen; omega) (by omega) (by have := hg9.size; simp at this; omega) ?_; intro v10 w10 ho10 hg10 _))
              have HX9 := hid (fun k hk => (ho9.lt k hk).1)
              have HH10 := hid (((HH9.out.alloc (.cells #[] 31)).past hg9 HH9.out.lt (own_new _)).past hg10 HH9.out.lt HX9.out)
              have HO10 := hid (own_past (own_past (HO8.out.alloc (.cells #[] 31)) hg9 HL8.out (own_new _)) hg10 HL8.out HX9.out)
              have HBO := hid (both_row ho10)
              have HW10 := hid (((HW8.out.alloc hB8 (.cells #[] 31)).grown hg9 (by simp; omega) (fun k hk => Nat.le_trans hB8 (own_new _ k hk))).grown hg10 (by have := hg9.size; simp at this; omega) (fun k hk => Nat.le_trans hB8 (HX9.out k hk)))
              obtain ⟨⟨c0, c1⟩, f0, f1⟩ := HH10.out
              clear ho9 hg9 ho10 hg10
              go_wp2_with (go_at_call 9; refine (alike_any js (body ++ us) _ _ _ _ _ HO10.out HBO.out HJT.out hjl).mono ?_; rintro e w11 ⟨rfl, nq2, rfl⟩)
              go_ret
              exact ⟨rfl, below_drewN HW10.out _⟩
          · have htk' : ((tk : Int) != 0) = true := by simp; omega
            go_wp2_with (go_at_call 9; refine (alike_any ks (body ++ [⟨0, s.size, [], 0⟩]) _ _ _ _ _ (HO6.out.alloc _) (HO2e.out.alloc _) HSTR.out hkl).mono ?_; rintro e w7 ⟨rfl, nq, rfl⟩)
            go_ret
            exact ⟨rfl, below_drewN (HW6.out.alloc hz6 _) nq⟩
        · have HKS := hid (said_long (body := body) (by omega))
          generalize saidAll body = X at *
          have hl3 : (3000 : Int) < X.length := by omega
          have hl3' : decide ((X.length : Int) ≤ 3000) = false := by simp; omega
          go_wp2_with fail
          refine (ltok _ HKS.out _ ev HXS.out ((HW5.out.cell (p := ⟨2, 0, none⟩) h2).trans HV.out) hev).mono ?_
          rintro e w6 ⟨v6, rfl, ho6, hb6⟩
          have HO2e := hid (own_below HO2d.out hb6)
          have HO3e := hid (own_below HO3d.out hb6)
          have HG5 := hid (HG4.out.below hb6 HG4.out.lt)
          have HW6 := hid (HW5.out.trans (hb6.mono HW5.out.size))
          obtain ⟨⟨c0, c1⟩, f0, f1⟩ := HG5.out
          have hG6 := HG5.out.lt
          have hz6 := HW6.out.size
          clear ho6 hb6 HO2d HO3d HG4 HW5
          by_cases htk : tk = 0
          · subst htk
            obtain ⟨ht3, ub, hus, hlt2, hul⟩ : t.size ≤ 3000 ∧ ∃ ub, us = ub ++ [(⟨0, t.size, [], 0⟩ : Lx.Tk)] ∧ Lx.lex t.size 0 t.data.toList = .ok us ∧ us.length ≤ 3001 := by
              rcases answer_shape t with ⟨k', p', hsh, hk1⟩ | ⟨ht3, ub, hsh, _, hlx, hub⟩
              · have := HAT.out.symm.trans hsh
                simp only [Prod.mk.injEq] at this
                omega
              · have := HAT.out.symm.trans hsh
                simp only [Prod.mk.injEq] at this
                exact ⟨ht3, ub, this.2.2, by rw [this.2.2]; exact hlx, by rw [this.2.2]; simp; omega⟩
            have HLT := hid hlt2
            obtain ⟨g3, cap3, rfl⟩ : ∃ g cap, v3 = .slice (some ⟨g, 0, none⟩) us.length cap := by
              rcases forms HO3e.out with ⟨_, h⟩ | h
              · rw [hus] at h; simp at h
              · exact h
            clear hlt2 hus
            go_upto_region 20 with (fail)
            have HW7 := hid (HW6.out.alloc hz6 (.cells #[.int .i64 1, .int .i64 0] 25))
            have HH7 := hid (Flt.new w6 (.int .i64 1) (.int .i64 0) 25)
            have HO2f := hid (HO2e.out.alloc (.cells #[.int .i64 1, .int .i64 0] 25))
            have HO3f := hid (HO3e.out.alloc (.cells #[.int .i64 1, .int .i64 0] 25))
            have HGf := hid (HG5.out.alloc (.cells #[.int .i64 1, .int .i64 0] 25))
            have HN2 := hid (own_ne HO2e.out (F := w6.heap.size) (.inr (Nat.le_refl _)))
            have HN3 := hid (own_ne HO3e.out (F := w6.heap.size) (.inr (Nat.le_refl _)))
            clear c0 c1 f0 f1 HG5 HO2e HO3e
            have hHw := hz6
            generalize w6.alloc (Obj.cells #[.int .i64 1, .int .i64 0] 25) = W7 at *
            generalize w6.heap.size = H at *
            obtain ⟨⟨c0, c1⟩, f0, f1⟩ := HGf.out
            have hG7 := HGf.out.lt
            by_cases hsum : 3000 < s.size + t.size + 1
            · have hsum' : (3000 : Int) < (s.size : Int) + t.size + 1 := by omega
              go_wp2_with fail
              go_ret
              exact ⟨rfl, HW7.out⟩
            · have hsum' : (s.size : Int) + t.size + 1 ≤ 3000 := by omega
              obtain ⟨js, hjs, hjst⟩ := join_answer HLX.out HLT.out (by omega)
              have HJS := hid hjs
              have HJT := hid hjst
              have hjl : js.length ≤ 10000 := by
                have := congrArg List.length hjst
                simp at this
                omega
              have hjz : ((s ++ ⟨#[10]⟩) ++ t).size ≤ 140737488351232 := by
                rw [ByteArray.size_append, ByteArray.size_append]
                show s.size + 1 + t.size ≤ _
                omega
              have HJZ := hid hjz
              clear hjs hjst hjz
              go_wp2_with fail
              refine (ltok _ HJS.out _ ev HJZ.out ((HW7.out.cell (p := ⟨2, 0, none⟩) h2).trans HV.out) hev).mono ?_
              rintro e w8 ⟨v8, rfl, ho8, hb8⟩
              have HO2g := hid (own_store (own_below HO2f.out hb8) HN2.out (.int .i64 0) (.int .i64 0))
              have HO3g := hid (own_store (own_below HO3f.out hb8) HN3.out (.int .i64 0) (.int .i64 0))
              have HO8 := hid (own_store ho8 (own_ne ho8 (.inl HH7.out.lt)) (.int .i64 0) (.int .i64 0))
              have HH8 := hid (HH7.out.below hb8 HH7.out.lt)
              have HH9 := hid (HH8.out.store (.int .i64 0) (.int .i64 0))
              have HW8 := hid (below_store (HW7.out.trans (hb8.mono HW7.out.size)) hHw (.int .i64 0) (.int .i64 0))
              clear c0 c1 f0 f1 ho8 hb8
              obtain ⟨⟨c0, c1⟩, f0, f1⟩ := HH8.out
              go_upto_region 23 with (fail)
              clear c0 c1 f0 f1 HH8
              generalize (w8.setCell ⟨H, 0, none⟩ (.int .i64 0)).setCell ⟨H, 1, none⟩ (.int .i64 0) = W8 at *
              have hB8 := HW8.out.size
              have hcap : body.length ≤ cap2 := by have := own_cap HO2g.out; omega
              have hlt2 := HO2g.out.lt
              have HL2 := hid (fun k hk => (HO2g.out.lt k hk).2)
              have HL3 := hid (fun k hk => (HO3g.out.lt k hk).2)
              have HL8 := hid (fun k hk => (HO8.out.lt k hk).2)
              clear hlt2
              go_upto_region 24 with (first
                | (at_builtin; refine wpList_append_own _ rfl (.tmp 129) (.tmp 134) 22 rfl W8.heap.size 31 i0 (.agg #[.int .i64 0, .int .i64 0, .string ⟨#[]⟩, .int .i64 0]) 4 40 Tryd.underlying22 hi hz0 hzs hz2 rfl (by decide) (.slice (some ⟨W8.heap.size, 0, none⟩) 0 0) 0 [] rfl (by exact World.ownsRow_made W8 #[] 0 (Nat.le_refl _) (by unfold maxLen; omega) rfl) ⟨g2, 0, none⟩ body.length cap2 (cellsOf body) rfl (cellsOf_len _) (by exact front_cells (HO2g.out.alloc _)) (cellsOf_one _) (by unfold maxLen; omega) (by omega) (by simp) ?_; intro v9 w9 ho9 hg9 _)
                | (at_builtin; refine wpList_append_own _ rfl (.tmp 135) (.tmp 136) 22 rfl W8.heap.size 31 i0 (.agg #[.int .i64 0, .int .i64 0, .string ⟨#[]⟩, .int .i64 0]) 4 40 Tryd.underlying22 hi hz0 hzs hz2 rfl (by decide) v9 (0 + body.length) ([] ++ cellsOf body) rfl ho9 ⟨g3, 0, none⟩ us.length cap3 (cellsOf us) rfl (cellsOf_len _) (by exact (own_past (HO3g.out.alloc _) hg9 HL3.out (own_new _)).cells (g := g3) rfl) (cellsOf_one _) (by unfold maxLen; omega) (by omega) (by have := hg9.size; simp at this; omega) ?_; intro v10 w10 ho10 hg10 _))
              have HX9 := hid (fun k hk => (ho9.lt k hk).1)
              have HH10 := hid (((HH9.out.alloc (.cells #[] 31)).past hg9 HH9.out.lt (own_new _)).past hg10 HH9.out.lt HX9.out)
              have HO10 := hid (own_past (own_past (HO8.out.alloc (.cells #[] 31)) hg9 HL8.out (own_new _)) hg10 HL8.out HX9.out)
              have HBO := hid (both_row ho10)
              have HW10 := hid (((HW8.out.alloc hB8 (.cells #[] 31)).grown hg9 (by simp; omega) (fun k hk => Nat.le_trans hB8 (own_new _ k hk))).grown hg10 (by have := hg9.size; simp at this; omega) (fun k hk => Nat.le_trans hB8 (HX9.out k hk)))
              obtain ⟨⟨c0, c1⟩, f0, f1⟩ := HH10.out
              clear ho9 hg9 ho10 hg10
              go_wp2_with (go_at_call 9; refine (alike_any js (body ++ us) _ _ _ _ _ HO10.out HBO.out HJT.out hjl).mono ?_; rintro e w11 ⟨rfl, nq2, rfl⟩)
              go_ret
              exact ⟨rfl, below_drewN HW10.out _⟩
          · have htk' : ((tk : Int) != 0) = true := by simp; omega
            go_wp2_with fail
            go_ret
            exact ⟨rfl, HW6.out.alloc hz6 _⟩
end Go.Proofs.YtkckmfnmdkfkaaaDoor
