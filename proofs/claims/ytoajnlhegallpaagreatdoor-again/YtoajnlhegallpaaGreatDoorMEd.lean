/-
  What the program's rules do: program.
-/
import Derived.Test.YtoajnlhegallpaaGreatDoorMEb
set_option linter.unusedVariables false
set_option linter.unusedSimpArgs false
set_option maxRecDepth 100000
set_option maxHeartbeats 4000000
namespace Go.Proofs.YtoajnlhegallpaaGreatDoor
open Go.RowKit

namespace Sy
def defT (z : Env) (N : Nat) (t0 : Lx.Tk) (tl : List Lx.Tk) : R Tr := bnd (bindB z N (exprB z N 200) 1 tl) fun q ts => .ok (.mk 2 t0.pos q.2.1 q.1 [q.2.2], ts)
end Sy
theorem def_eq (z : Sy.Env) (N : Nat) (t0 : Lx.Tk) (tl : List Lx.Tk) : Sy.defB z N (t0 :: tl) = Sy.defT z N t0 tl := rfl
theorem le_defT {z : Sy.Env} {N n : Nat} (t0 : Lx.Tk) (tl : List Lx.Tk) (h : tl.length ≤ n) : LeB n (Sy.defT z N t0 tl) := by
 unfold Sy.defT
 exact LeB.bnd (le_bind (fun ts h => le_expr _ ts h) _ _ h) fun _ _ h2 => LeB.okk h2
theorem lt_op {z : Sy.Env} {N : Nat} {t0 : Lx.Tk} {tl us : List Lx.Tk} {a : Sy.Tr} (h : Sy.opB z N (t0 :: tl) = .ok (a, us)) : us.length ≤ tl.length := by
 have hle : LeB tl.length (Sy.opB z N (t0 :: tl)) := by
  unfold Sy.opB
  rw [show Sy.takeB z (t0 :: tl) = .ok (t0, tl) from rfl, Sy.bnd_ok]
  repeat' first
   | with_reducible exact LeB.err _
   | with_reducible refine LeB.bnd ?_ (fun _ _ _ => ?_)
   | with_reducible refine LeB.iteB ?_ (fun _ _ => ?_) (fun _ _ => ?_)
   | with_reducible refine le_need ?_
   | with_reducible refine le_kind ?_
   | with_reducible refine le_typ _ _ ?_
   | with_reducible assumption
   | exact Nat.le_refl _
   | with_reducible refine LeB.okk ?_
 exact hle _ _ h

theorem dprogram (N : Nat) (hN : N ≤ 90000) (z : Sy.Env) (hE : EOK N 0 0 z (Sy.exprB z N 200)) (hT : TOK N 0 0 z (Sy.typB z N 200)) (w : World) (b : Nat) (ts : List Lx.Tk) (h : Dr w b z ts 0 0) (hn : ts.length < N) :
  Calls Tryz.prog 14 #[.pointer (some ⟨b, 0, none⟩)] w fun en w' => PgRes w b (Sy.progB z N ts) en w' := by
 obtain ⟨i0, hi, hiz0, hiz1, hiz2⟩ := info_parts Tryz.info36
 have hOP : ROK1 31 N 0 0 z (Sy.opB z N) := doperation N 0 0 z _ hT (Sy.opB z N) (fun t0 tl => rfl)
 have hDF := ddef N 0 0 hN z _ hE
 have H := hid h
 have hbR : b < w.heap.size := h.lt
 clear h
 go_enter Tryz.func14, Tryz.ntmps14
 go_wp2_with fail
 obtain ⟨W0, hW0, HI⟩ := jn1 H.out 24
 rw [hW0]
 clear hW0
 have hz0 := HI.out.size
 obtain ⟨W1, hW1, HB1, HRd1, HKp1, hs1, hu1⟩ := jblk_new (.int .i64 0) (.int .i64 0) (.string ⟨#[]⟩) (.int .i64 0) (.slice none 0 0) HI.out.rd (Kp.refl b W0) 24
 rw [hz0] at HB1
 have HRS1 := hid (HI.out.one.kp HKp1.out (by omega))
 have HKA1 := hid (HI.out.kp.trans HKp1.out)
 have HWW := hid hW1
 clear hW1
 have HX0 : Hid (Hw w b (w.heap.size + 1) w.heap.size W1.heap.size z ts 0 0 0 0 (([] : List (Sy.Tr × Value)).length : Int) ⟨#[]⟩ (.slice none 0 0) [] W1) := ⟨HB1.out, RowS.nil _ _, ⟨_, _, _, _, _, HRS1.out⟩, HRd1.out, HKA1.out, Nat.le_refl _⟩
 try go_wp2_with fail
 rw [HWW.out]
 go_loopg [] N (fun n wr => ∃ (vr : Value) (ls : List (Sy.Tr × Value)) (tr : List Lx.Tk), Hid (Hw w b (w.heap.size + 1) w.heap.size W1.heap.size z tr 0 0 0 0 (ls.length : Int) ⟨#[]⟩ vr ls wr) ∧ Hid (Sy.opsB z N n (ls.map (·.1)) tr = Sy.opsB z N N [] ts) ∧ Hid (tr.length < n) ∧ tr.length < N ∧ ls.length + tr.length ≤ ts.length)
 case atStart => exact ⟨_, [], ts, HX0, hid rfl, hn, hn, by simp⟩
 case round =>
  obtain ⟨vr, ls, tr, HXr, HE, HM, hnr, hlen⟩ := hrel
  obtain ⟨m, hm⟩ : ∃ m, gk = m + 1 := ⟨gk - 1, by have := HM.out; omega⟩
  subst hm
  have hAr : (w.heap.size + 1) < wr.heap.size := Blk.lt HXr.out.cells
  have hzr := HXr.out.size
  have HLB := hid (len_bytes (n := ls.length) (N := N + 3) (by omega) (by omega))
  go_wp2_with fail
  refine (dsees _ b z tr 0 0 Sy.w_op HXr.out.rd).mono ?_
  intro en wt HD
  rcases hl : Sy.lookB z tr with fl | ⟨t, ul⟩
  ·obtain ⟨rfl, HKt⟩ := HD.no (f := fl) (by simp [Sy.seesB, Sy.bnd, hl])
   have HKE := hid (HXr.out.kp.trans HKt.out)
   have HOX : Hid (Sy.opsB z N N [] ts = .error fl) := by rw [Hid, ← HE.out]; simp [Sy.opsB, Sy.bnd, hl]
   go_wp2_with fail
   exact ⟨rfl, PgRes.err (by simp [Sy.progB, Sy.bnd, HOX.out]) HKE.out⟩
  have HL : Hid (Sy.lookB z tr = .ok (t, tr)) := by obtain ⟨h1, _⟩ := look_ok hl; rw [Hid, hl, h1]
  clear hl
  obtain ⟨rfl, HRt, HKt⟩ := HD.yes (a := t.text == Sy.w_op) (ts := tr) (by simp [Sy.seesB, Sy.bnd, HL.out])
  clear HD
  have htt := HKt.out.size
  have HX := hid (HXr.out.step HRt.out HKt.out (by omega) (by omega) (by omega))
  cases hv : (t.text == Sy.w_op) with
  | true =>
   obtain ⟨tl, htl⟩ : ∃ tl, tr = t :: tl := ⟨tr.tail, look_some HL.out (.inl (text_ne hv (by decide)))⟩
   subst htl
   obtain ⟨⟨c0, c1, c2, c3, c4⟩, c5, c6, c7, c8, c9⟩ := blk5 HX.out.cells
   go_wp2_with fail
   rcases hx40 : Sy.opB z N (t :: tl) with f40 | ⟨y40, ts40⟩
   ·skip
    refine wp_region_held_drew (S := (fun w' => w'.cell? ⟨(w.heap.size + 1), 4, none⟩ = some vr)) (by kernel_rfl) (by first | trivial | (dsimp only; go_keep)) (fun hHeld => ?_)
    refine wpAnyH_take (i := 0) (v := ?vv0_1) rfl (by kernel_rfl) (by kernel_rfl) (by kernel_rfl) (fun _ _ _ h => h) (Or.inl ⟨by rfl, ?yy0_1⟩) (by assumption) ?rr0_1
    case yy0_1 => (intro w hSw; (try dsimp only at hSw); go_simp; (try with_reducible rfl))
    try simp only [Act.put, List.setIfInBounds_toArray, List.set_cons_zero, List.set_cons_succ]
    refine wpAnyH_take (i := 1) (v := ?vv1_1) rfl (by kernel_rfl) (by kernel_rfl) (by kernel_rfl) (fun _ _ _ h => h) (Or.inl ⟨by rfl, ?yy1_1⟩) (by assumption) ?rr1_1
    case yy1_1 => (intro w hSw; (try dsimp only at hSw); go_simp; (try with_reducible rfl))
    try simp only [Act.put, List.setIfInBounds_toArray, List.set_cons_zero, List.set_cons_succ]
    refine wpAnyH_take (i := 2) (v := ?vv2_1) rfl (by kernel_rfl) (by kernel_rfl) (by kernel_rfl) (fun _ _ _ h => h) (Or.inl ⟨by rfl, ?yy2_1⟩) (by assumption) ?rr2_1
    case yy2_1 => (intro w hSw; (try dsimp only at hSw); go_simp; (try with_reducible rfl))
    try simp only [Act.put, List.setIfInBounds_toArray, List.set_cons_zero, List.set_cons_succ]
    refine wpAnyH_ready (rs := [3]) (by kernel_rfl) (by simp) (AllReadyH.cons rfl (fun K hK => ?_) AllReadyH.nil)
    go_simp
    refine (hOP _ b t tl (HX.out.drew).rd hnr).mono ?_
    intro en w40 HD
    obtain ⟨rfl, HK40⟩ := HD.no hx40
    have HKE := hid ((HX.out.drew).kp.trans HK40.out)
    have HOX : Sy.opsB z N N [] ts = .error f40 := by rw [← HE.out]; simp [Sy.opsB, Sy.bnd, HL.out, hv, hx40]
    exact ⟨rfl, PgRes.err (by simp [Sy.progB, Sy.bnd, HOX]) HKE.out⟩
   have H40 := hid hx40
   clear hx40
   go_region_law (first
    | (refine step_append_lies _ (by rfl) _ _ 22 (by rfl) W1.heap.size 24 i0 (.agg #[.int .i64 0, .int .i64 0, .string ⟨#[]⟩, .int .i64 0, .slice none 0 0]) 5 64 Tryz.underlying22 hi hiz0 hiz1 hiz2 rfl (by decide) vr ls.length (rowCells ls) (by rfl) HXA.out.row.own ⟨w40.heap.size, 0, none⟩ 1 1 (nodeCells y40 (.slice a40 l40 c40)) (by rfl) (by rfl) HNW.out (node_one _ _ _ _) (by decide) HLB.out.1 HLB.out.2 HXA.out.size _ rfl ?_; intro ga capa w9 hown hgrow hat hlt9; have HB9 := hid (HXA.out.cells.grown hgrow (fun e0 => by have := (HXA.out.row.own.lt (w.heap.size + 1) e0.symm).1; omega)); obtain ⟨⟨t9_0, t9_1, t9_2, t9_3, t9_4⟩, t9_5, t9_6, t9_7, t9_8, t9_9⟩ := blk5 HB9.out)
    | (go_simp; go_at_call 31; refine (hOP _ b t tl (HX.out.drew).rd hnr).mono ?_; intro en w40 HD; obtain ⟨a40, l40, c40, rfl, HKd40, HR40, HK40⟩ := HD.yes H40.out; have HXS := hid ((HX.out.drew).step HR40.out HK40.out (by omega) (by omega) (by omega)); obtain ⟨⟨s0, s1, s2, s3, s4⟩, s5, s6, s7, s8, s9⟩ := blk5 HXS.out.cells; have hlA : (w.heap.size + 1) < w40.heap.size := Blk.lt HXS.out.cells; have htQ := HK40.out.size; (try simp at htQ); have HXA := hid (HXS.out.alloc (.cells #[.int .i64 y40.kind, .int .i64 y40.pos, .string ⟨y40.name.toArray⟩, .int .i64 y40.num, .slice a40 l40 c40] 24)); have HNW := hid (node_news (w := w40) (T := y40) (a := a40) (l := l40) (c := c40) (ty := 24) (H := w40.heap.size) rfl); dsimp only))
   all_goals
    have HKT : Hid (Kids (w40.alloc (.cells #[.int .i64 y40.kind, .int .i64 y40.pos, .string ⟨y40.name.toArray⟩, .int .i64 y40.num, .slice a40 l40 c40] 24)) (Fo W1.heap.size vr) (.slice a40 l40 c40) y40.kids) := by
     refine (HKd40.out.weak (fun q hq hlt => ⟨by (try simp at hq); omega, ?_⟩)).pastF ((Below.refl _ _).alloc (Nat.le_refl _) _)
     intro e0
     have h1 := (HX.out.row.own.lt q e0.symm).2
     (try simp at hq)
     omega
    have HX2 := hid (HXA.out.app (T := y40) (kv := .slice a40 l40 c40) (by omega) (by omega) (by omega) (by omega) (by omega) hown hgrow hat HKT.out)
    have hleQ := lt_op H40.out
    have HE2 : Hid (Sy.opsB z N m ((ls ++ [(y40, (.slice a40 l40 c40 : Value))]).map (·.1)) ts40 = Sy.opsB z N N [] ts) := by rw [Hid, ← HE.out]; simp [Sy.opsB, Sy.bnd, HL.out, hv, H40.out]
    have HX4 := hid (HX2.out.num (by omega) (by omega) (by omega) (by omega) ((ls.length : Int) + 1))
    go_wp2_with fail
    go_roundg m
    case measure => omega
    case rel => exact ⟨_, ls ++ [(y40, (.slice a40 l40 c40 : Value))], _, hid (by have h := HX4.out; simpa using h), HE2, hid (by have := HM.out; simp only [List.length_cons] at *; omega), by simp only [List.length_cons] at *; omega, by simp only [List.length_cons, List.length_append, List.length_nil] at *; omega⟩
  | false =>
   have HOPS : Hid (Sy.opsB z N N [] ts = .ok (ls.map (·.1), tr)) := by rw [Hid, ← HE.out]; simp [Sy.opsB, Sy.bnd, HL.out, hv]
   clear hv HE HM
   obtain ⟨cnt, hcnt⟩ : ∃ cnt, cnt = ls.length := ⟨_, rfl⟩
   obtain ⟨o, ho⟩ : ∃ o, o = ls.map (·.1) := ⟨_, rfl⟩
   have hol : o.length = cnt := by rw [ho, hcnt]; simp
   rw [← hcnt] at HX
   rw [← ho] at HOPS
   have HO := hid ho
   have HOL := hid hol
   clear ho hol hcnt
   have HDE : Hid (Sy.defsB z N N (ls.map (·.1)) tr = Sy.defsB z N N o tr) := by rw [Hid, HO.out]
   go_wp2_with fail
   go_loopg [] N (fun n wr => ∃ (vr : Value) (ls : List (Sy.Tr × Value)) (tr2 : List Lx.Tk), Hid (Hw w b (w.heap.size + 1) w.heap.size W1.heap.size z tr2 0 0 0 0 (cnt : Int) ⟨#[]⟩ vr ls wr) ∧ Hid (Sy.defsB z N n (ls.map (·.1)) tr2 = Sy.defsB z N N o tr) ∧ Hid (tr2.length < n) ∧ tr2.length < N ∧ ls.length + tr2.length ≤ ts.length)
   case atStart => exact ⟨_, ls, tr, HX, HDE, hnr, hnr, hlen⟩
   case round =>
    clear HX HXr HL HRt HKt HDE
    generalize htr : tr = tr0 at *
    clear htr
    obtain ⟨vr2, ls2, tr, HXr, HE, HM, hnr2, hlen2⟩ := hrel
    obtain ⟨m, hm⟩ : ∃ m, gk = m + 1 := ⟨gk - 1, by have := HM.out; omega⟩
    subst hm
    have hAr2 : (w.heap.size + 1) < _ := Blk.lt HXr.out.cells
    have hzr2 := HXr.out.size
    have HLB := hid (len_bytes (n := ls2.length) (N := N + 3) (by omega) (by omega))
    go_wp2_with fail
    refine (dsees _ b z tr 0 0 Sy.w_def HXr.out.rd).mono ?_
    intro en wt HD
    rcases hl : Sy.lookB z tr with fl | ⟨t, ul⟩
    ·obtain ⟨rfl, HKt⟩ := HD.no (f := fl) (by simp [Sy.seesB, Sy.bnd, hl])
     have HKE := hid (HXr.out.kp.trans HKt.out)
     have HDX : Hid (Sy.defsB z N N o tr0 = .error fl) := by rw [Hid, ← HE.out]; simp [Sy.defsB, Sy.bnd, hl]
     go_wp2_with fail
     exact ⟨rfl, PgRes.err (by simp [Sy.progB, Sy.bnd, HOPS.out, HDX.out]) HKE.out⟩
    have HL : Hid (Sy.lookB z tr = .ok (t, tr)) := by obtain ⟨h1, _⟩ := look_ok hl; rw [Hid, hl, h1]
    clear hl
    obtain ⟨rfl, HRt, HKt⟩ := HD.yes (a := t.text == Sy.w_def) (ts := tr) (by simp [Sy.seesB, Sy.bnd, HL.out])
    clear HD
    have htt := HKt.out.size
    have HX := hid (HXr.out.step HRt.out HKt.out (by omega) (by omega) (by omega))
    cases hv : (t.text == Sy.w_def) with
    | true =>
     obtain ⟨tl, htl⟩ : ∃ tl, tr = t :: tl := ⟨tr.tail, look_some HL.out (.inl (text_ne hv (by decide)))⟩
     subst htl
     obtain ⟨⟨c0, c1, c2, c3, c4⟩, c5, c6, c7, c8, c9⟩ := blk5 HX.out.cells
     go_wp2_with fail
     rcases hx40 : Sy.defT z N t tl with f40 | ⟨y40, ts40⟩
     ·skip
      refine wp_region_held_drew (S := (fun w' => w'.cell? ⟨(w.heap.size + 1), 4, none⟩ = some vr2)) (by kernel_rfl) (by first | trivial | (dsimp only; go_keep)) (fun hHeld => ?_)
      refine wpAnyH_take (i := 0) (v := ?vv0_2) rfl (by kernel_rfl) (by kernel_rfl) (by kernel_rfl) (fun _ _ _ h => h) (Or.inl ⟨by rfl, ?yy0_2⟩) (by assumption) ?rr0_2
      case yy0_2 => (intro w hSw; (try dsimp only at hSw); go_simp; (try with_reducible rfl))
      try simp only [Act.put, List.setIfInBounds_toArray, List.set_cons_zero, List.set_cons_succ]
      refine wpAnyH_take (i := 1) (v := ?vv1_2) rfl (by kernel_rfl) (by kernel_rfl) (by kernel_rfl) (fun _ _ _ h => h) (Or.inl ⟨by rfl, ?yy1_2⟩) (by assumption) ?rr1_2
      case yy1_2 => (intro w hSw; (try dsimp only at hSw); go_simp; (try with_reducible rfl))
      try simp only [Act.put, List.setIfInBounds_toArray, List.set_cons_zero, List.set_cons_succ]
      refine wpAnyH_take (i := 2) (v := ?vv2_2) rfl (by kernel_rfl) (by kernel_rfl) (by kernel_rfl) (fun _ _ _ h => h) (Or.inl ⟨by rfl, ?yy2_2⟩) (by assumption) ?rr2_2
      case yy2_2 => (intro w hSw; (try dsimp only at hSw); go_simp; (try with_reducible rfl))
      try simp only [Act.put, List.setIfInBounds_toArray, List.set_cons_zero, List.set_cons_succ]
      refine wpAnyH_ready (rs := [3]) (by kernel_rfl) (by simp) (AllReadyH.cons rfl (fun K hK => ?_) AllReadyH.nil)
      go_simp
      refine (hDF _ b t tl (HX.out.drew).rd hnr2).mono ?_
      intro en w40 HD
      obtain ⟨rfl, HK40⟩ := HD.no hx40
      have HKE := hid ((HX.out.drew).kp.trans HK40.out)
      have HDX : Sy.defsB z N N o tr0 = .error f40 := by rw [← HE.out]; simp [Sy.defsB, Sy.bnd, HL.out, hv, def_eq, hx40]
      exact ⟨rfl, PgRes.err (by simp [Sy.progB, Sy.bnd, HOPS.out, HDX]) HKE.out⟩
     have H40 := hid hx40
     clear hx40
     go_region_law (first
      | (refine step_append_lies _ (by rfl) _ _ 22 (by rfl) W1.heap.size 24 i0 (.agg #[.int .i64 0, .int .i64 0, .string ⟨#[]⟩, .int .i64 0, .slice none 0 0]) 5 64 Tryz.underlying22 hi hiz0 hiz1 hiz2 rfl (by decide) vr2 ls2.length (rowCells ls2) (by rfl) HXA.out.row.own ⟨w40.heap.size, 0, none⟩ 1 1 (nodeCells y40 (.slice a40 l40 c40)) (by rfl) (by rfl) HNW.out (node_one _ _ _ _) (by decide) HLB.out.1 HLB.out.2 HXA.out.size _ rfl ?_; intro ga capa w9 hown hgrow hat hlt9; have HB9 := hid (HXA.out.cells.grown hgrow (fun e0 => by have := (HXA.out.row.own.lt (w.heap.size + 1) e0.symm).1; omega)); obtain ⟨⟨t9_0, t9_1, t9_2, t9_3, t9_4⟩, t9_5, t9_6, t9_7, t9_8, t9_9⟩ := blk5 HB9.out)
      | (go_simp; go_at_call 32; refine (hDF _ b t tl (HX.out.drew).rd hnr2).mono ?_; intro en w40 HD; obtain ⟨a40, l40, c40, rfl, HKd40, HR40, HK40⟩ := HD.yes H40.out; have HXS := hid ((HX.out.drew).step HR40.out HK40.out (by omega) (by omega) (by omega)); obtain ⟨⟨s0, s1, s2, s3, s4⟩, s5, s6, s7, s8, s9⟩ := blk5 HXS.out.cells; have hlA : (w.heap.size + 1) < w40.heap.size := Blk.lt HXS.out.cells; have htQ := HK40.out.size; (try simp at htQ); have HXA := hid (HXS.out.alloc (.cells #[.int .i64 y40.kind, .int .i64 y40.pos, .string ⟨y40.name.toArray⟩, .int .i64 y40.num, .slice a40 l40 c40] 24)); have HNW := hid (node_news (w := w40) (T := y40) (a := a40) (l := l40) (c := c40) (ty := 24) (H := w40.heap.size) rfl); dsimp only))
     all_goals
      have HKT : Hid (Kids (w40.alloc (.cells #[.int .i64 y40.kind, .int .i64 y40.pos, .string ⟨y40.name.toArray⟩, .int .i64 y40.num, .slice a40 l40 c40] 24)) (Fo W1.heap.size vr2) (.slice a40 l40 c40) y40.kids) := by
       refine (HKd40.out.weak (fun q hq hlt => ⟨by (try simp at hq); omega, ?_⟩)).pastF ((Below.refl _ _).alloc (Nat.le_refl _) _)
       intro e0
       have h1 := (HX.out.row.own.lt q e0.symm).2
       (try simp at hq)
       omega
      have HX2 := hid (HXA.out.app (T := y40) (kv := .slice a40 l40 c40) (by omega) (by omega) (by omega) (by omega) (by omega) hown hgrow hat HKT.out)
      have hleQ := le_defT _ _ (Nat.le_refl _) _ _ H40.out
      have HE2 : Hid (Sy.defsB z N m ((ls2 ++ [(y40, (.slice a40 l40 c40 : Value))]).map (·.1)) ts40 = Sy.defsB z N N o tr0) := by rw [Hid, ← HE.out]; simp [Sy.defsB, Sy.bnd, HL.out, hv, def_eq, H40.out]
      go_wp2_with fail
      go_roundg m
      case measure => omega
      case rel => exact ⟨_, ls2 ++ [(y40, (.slice a40 l40 c40 : Value))], _, HX2, HE2, hid (by have := HM.out; simp only [List.length_cons] at *; omega), by simp only [List.length_cons] at *; omega, by simp only [List.length_cons, List.length_append, List.length_nil] at *; omega⟩
    | false =>
     have HDFS : Hid (Sy.defsB z N N o tr0 = .ok (ls2.map (·.1), tr)) := by rw [Hid, ← HE.out]; simp [Sy.defsB, Sy.bnd, HL.out, hv]
     clear hv HE HM
     go_wp2_with fail
     refine (dneed _ b z tr 0 0 Sy.w_main (by decide) HX.out.rd).mono ?_
     intro en wm1 HD
     rcases hxm1 : Sy.needB z Sy.w_main tr with fm1 | ⟨um1, tm⟩
     ·obtain ⟨rfl, HKm1⟩ := HD.no hxm1
      have HKE := hid (HX.out.kp.trans HKm1.out)
      go_wp2_with fail
      exact ⟨rfl, PgRes.err (by simp [Sy.progB, Sy.bnd, HOPS.out, HDFS.out, hxm1]) HKE.out⟩
     have HNm1 := hid hxm1
     have hlm1 := le_need (Nat.le_refl _) _ _ hxm1
     obtain ⟨rfl, HRm1, HKm1⟩ := HD.yes hxm1
     clear hxm1 HD
     have htm1 := HKm1.out.size
     have HX := hid (HX.out.step HRm1.out HKm1.out (by omega) (by omega) (by omega))
     go_wp2_with fail
     refine (dneed _ b z tm 0 0 Sy.s_eq (by decide) HX.out.rd).mono ?_
     intro en wm2 HD
     rcases hxm2 : Sy.needB z Sy.s_eq tm with fm2 | ⟨um2, te⟩
     ·obtain ⟨rfl, HKm2⟩ := HD.no hxm2
      have HKE := hid (HX.out.kp.trans HKm2.out)
      go_wp2_with fail
      exact ⟨rfl, PgRes.err (by simp [Sy.progB, Sy.bnd, HOPS.out, HDFS.out, HNm1.out, hxm2]) HKE.out⟩
     have HNm2 := hid hxm2
     have hlm2 := le_need (Nat.le_refl _) _ _ hxm2
     obtain ⟨rfl, HRm2, HKm2⟩ := HD.yes hxm2
     clear hxm2 HD
     have htm2 := HKm2.out.size
     have HX := hid (HX.out.step HRm2.out HKm2.out (by omega) (by omega) (by omega))
     have hnte : te.length < N := by omega
     obtain ⟨⟨c0, c1, c2, c3, c4⟩, c5, c6, c7, c8, c9⟩ := blk5 HX.out.cells
     go_wp2_with fail
     rcases hx50 : Sy.exprB z N 200 te with f50 | ⟨y50, ts50⟩
     ·skip
      refine wp_region_held_drew (S := (fun w' => w'.cell? ⟨(w.heap.size + 1), 4, none⟩ = some vr2)) (by kernel_rfl) (by first | trivial | (dsimp only; go_keep)) (fun hHeld => ?_)
      refine wpAnyH_take (i := 0) (v := ?vv0_3) rfl (by kernel_rfl) (by kernel_rfl) (by kernel_rfl) (fun _ _ _ h => h) (Or.inl ⟨by rfl, ?yy0_3⟩) (by assumption) ?rr0_3
      case yy0_3 => (intro w hSw; (try dsimp only at hSw); go_simp; (try with_reducible rfl))
      try simp only [Act.put, List.setIfInBounds_toArray, List.set_cons_zero, List.set_cons_succ]
      refine wpAnyH_take (i := 1) (v := ?vv1_3) rfl (by kernel_rfl) (by kernel_rfl) (by kernel_rfl) (fun _ _ _ h => h) (Or.inl ⟨by rfl, ?yy1_3⟩) (by assumption) ?rr1_3
      case yy1_3 => (intro w hSw; (try dsimp only at hSw); go_simp; (try with_reducible rfl))
      try simp only [Act.put, List.setIfInBounds_toArray, List.set_cons_zero, List.set_cons_succ]
      refine wpAnyH_take (i := 2) (v := ?vv2_3) rfl (by kernel_rfl) (by kernel_rfl) (by kernel_rfl) (fun _ _ _ h => h) (Or.inl ⟨by rfl, ?yy2_3⟩) (by assumption) ?rr2_3
      case yy2_3 => (intro w hSw; (try dsimp only at hSw); go_simp; (try with_reducible rfl))
      try simp only [Act.put, List.setIfInBounds_toArray, List.set_cons_zero, List.set_cons_succ]
      refine wpAnyH_ready (rs := [3]) (by kernel_rfl) (by simp) (AllReadyH.cons rfl (fun K hK => ?_) AllReadyH.nil)
      go_simp
      refine (hE.calls _ b te (HX.out.drew).rd hnte).mono ?_
      intro en w50 HD
      obtain ⟨rfl, HK50⟩ := HD.no hx50
      have HKE := hid ((HX.out.drew).kp.trans HK50.out)
      exact ⟨rfl, PgRes.err (by simp [Sy.progB, Sy.bnd, HOPS.out, HDFS.out, HNm1.out, HNm2.out, hx50]) HKE.out⟩
     have H50 := hid hx50
     clear hx50
     go_region_law (first
      | (refine step_append_lies _ (by rfl) _ _ 22 (by rfl) W1.heap.size 24 i0 (.agg #[.int .i64 0, .int .i64 0, .string ⟨#[]⟩, .int .i64 0, .slice none 0 0]) 5 64 Tryz.underlying22 hi hiz0 hiz1 hiz2 rfl (by decide) vr2 ls2.length (rowCells ls2) (by rfl) HXA.out.row.own ⟨w50.heap.size, 0, none⟩ 1 1 (nodeCells y50 (.slice a50 l50 c50)) (by rfl) (by rfl) HNW.out (node_one _ _ _ _) (by decide) HLB.out.1 HLB.out.2 HXA.out.size _ rfl ?_; intro ga capa w9 hown hgrow hat hlt9; have HB9 := hid (HXA.out.cells.grown hgrow (fun e0 => by have := (HXA.out.row.own.lt (w.heap.size + 1) e0.symm).1; omega)); obtain ⟨⟨t9_0, t9_1, t9_2, t9_3, t9_4⟩, t9_5, t9_6, t9_7, t9_8, t9_9⟩ := blk5 HB9.out)
      | (go_simp; go_at_call 34; refine (hE.calls _ b te (HX.out.drew).rd hnte).mono ?_; intro en w50 HD; obtain ⟨a50, l50, c50, rfl, HKd50, HR50, HK50⟩ := HD.yes H50.out; have HXS := hid ((HX.out.drew).step HR50.out HK50.out (by omega) (by omega) (by omega)); obtain ⟨⟨s0, s1, s2, s3, s4⟩, s5, s6, s7, s8, s9⟩ := blk5 HXS.out.cells; have hlA : (w.heap.size + 1) < w50.heap.size := Blk.lt HXS.out.cells; have htQ := HK50.out.size; (try simp at htQ); have HXA := hid (HXS.out.alloc (.cells #[.int .i64 y50.kind, .int .i64 y50.pos, .string ⟨y50.name.toArray⟩, .int .i64 y50.num, .slice a50 l50 c50] 24)); have HNW := hid (node_news (w := w50) (T := y50) (a := a50) (l := l50) (c := c50) (ty := 24) (H := w50.heap.size) rfl); dsimp only))
     all_goals
      have HKT : Hid (Kids (w50.alloc (.cells #[.int .i64 y50.kind, .int .i64 y50.pos, .string ⟨y50.name.toArray⟩, .int .i64 y50.num, .slice a50 l50 c50] 24)) (Fo W1.heap.size vr2) (.slice a50 l50 c50) y50.kids) := by
       refine (HKd50.out.weak (fun q hq hlt => ⟨by (try simp at hq); omega, ?_⟩)).pastF ((Below.refl _ _).alloc (Nat.le_refl _) _)
       intro e0
       have h1 := (HX.out.row.own.lt q e0.symm).2
       (try simp at hq)
       omega
      have HX2 := hid (HXA.out.app (T := y50) (kv := .slice a50 l50 c50) (by omega) (by omega) (by omega) (by omega) (by omega) hown hgrow hat HKT.out)
      go_wp2_with fail
      obtain ⟨V, hV⟩ : ∃ V, w9.setCell ⟨(w.heap.size + 1), 4, none⟩ (.slice (some ⟨ga, 0, none⟩) (ls2.length + 1) capa) = V := ⟨_, rfl⟩
      rw [hV] at HX2
      try rw [hV]
      clear hV
      refine (dneedEnd _ b z ts50 0 0 HX2.out.rd).mono ?_
      rintro en w8 ⟨hen, HK8⟩
      rcases hx8 : Sy.kindB z 0 ts50 with f8 | ⟨t8, us8⟩
      ·rw [hx8] at hen
       cases hen
       have HKE := hid (HX2.out.kp.trans HK8.out)
       go_wp2_with fail
       exact ⟨rfl, PgRes.err (by simp [Sy.progB, Sy.bnd, HOPS.out, HDFS.out, HNm1.out, HNm2.out, H50.out, hx8]) HKE.out⟩
      rw [hx8] at hen
      cases hen
      have H8 := hid hx8
      clear hx8
      dsimp only [tkV]
      have HC8 := hid (HX2.out.cells.kp HK8.out (by omega))
      obtain ⟨r0, r1, r2, r3, r4, hRf⟩ := HX2.out.res
      have HR8 := hid (hRf.kp HK8.out (by omega))
      have HRW8 := hid (HX2.out.row.kp HK8.out (by omega))
      have HKA8 := hid (HX2.out.kp.trans HK8.out)
      obtain ⟨⟨z0, z1, z2, z3, z4⟩, z5, z6, z7, z8, z9⟩ := blk5 HR8.out
      obtain ⟨⟨c0, c1, c2, c3, c4⟩, c5, c6, c7, c8, c9⟩ := blk5 HC8.out
      have HKF := hid (HRW8.out.kidsOf (by simp) (by simp))
      go_wp2_with fail
      refine bodyPost_ret (v := .agg #[.int .i64 0, .int .i64 0, .string ⟨#[]⟩, .int .i64 cnt, .slice (some ⟨ga, 0, none⟩) (ls2.length + 1) capa]) (by simp [results, Tryz.results14, go_sem, z0, z1, z2, z3, z4]) rfl ?_
      have hx : Sy.progB z N ts = .ok (.mk 0 0 [] cnt ((ls2 ++ [(y50, (.slice a50 l50 c50 : Value))]).map (·.1)), us8) := by simp [Sy.progB, Sy.bnd, HOPS.out, HDFS.out, HNm1.out, HNm2.out, H50.out, H8.out, HOL.out]
      rw [hx]
      refine ⟨_, _, _, rfl, hid ?_, hid (sto5_kp HKA8.out (Nat.le_refl _) _ _ _ _ _)⟩
      exact HKF.out.carry (fun g hg _ => sto5_heap _ w.heap.size g _ _ _ _ _ (by omega)) (fun g hg _ => by omega)
end Go.Proofs.YtoajnlhegallpaaGreatDoor
