/-
  The statement General.
-/
import Derived.Test.YtcogpcalghfghaaMXg
set_option linter.unusedVariables false
set_option linter.unusedSimpArgs false
namespace Go.Proofs.Ytcogpcalghfghaa
open Go.RowKit
open Un (Nm ins joinB Srt RV rowW rvOf app Gr St put Answers)

theorem prc_first {w : World} {x : Nat} (h : w.heap[x]? = some (pairB 0 7 0 (.slice none 0 0) (.slice none 0 0) 1 0 0 (.slice none 0 0) (.slice none 0 0))) : PrC w x 0 1 (fun _ => ⟨0, 7, 0, .slice none 0 0, .slice none 0 0⟩) (fun _ => ⟨1, 0, 0, .slice none 0 0, .slice none 0 0⟩) := by
  have hr : Rdc w 301 (.slice none 0 0) (.slice none 0 0) := ⟨⟨[], ⟨_, _, rfl, Nat.le_refl _, fun h => absurd rfl h⟩, Nat.zero_le _⟩, none, 0, 0, rfl, Nat.le_refl _, fun h => absurd rfl h⟩
  refine ⟨fun i hi => ?_, fun i hi => ?_⟩
  · obtain rfl : i = 0 := by omega
    exact ⟨⟨by rw [cellB h]; rfl, by rw [cellB h]; rfl, by rw [cellB h]; rfl, by rw [cellB h]; rfl, by rw [cellB h]; rfl⟩, hr⟩
  · obtain rfl : i = 0 := by omega
    exact ⟨⟨by rw [cellB h]; rfl, by rw [cellB h]; rfl, by rw [cellB h]; rfl, by rw [cellB h]; rfl, by rw [cellB h]; rfl⟩, hr⟩

set_option maxRecDepth 100000 in
set_option maxHeartbeats 16000000 in
theorem General_any (w : World) (a : Option Addr) (g o n c : Nat) (A B : Nat → Raw) (ha : n ≠ 0 → a = some ⟨g, o, none⟩) (hM : PrC w g o n A B) (d : Nat) (a2 : Option Addr) (g2 o2 n2 c2 : Nat) (Z : Nat → Gv) (ha2 : n2 ≠ 0 → a2 = some ⟨g2, o2, none⟩) (hZ : GvM w d g2 o2 n2 Z) :
    Calls Try.prog 3 #[.slice a n c, .slice a2 n2 c2] w fun en w' => en = .returned (.bool true) ∧ Ch (fun _ => False) w w' := by
  replace hM := hid hM
  replace ha := hid ha
  replace ha2 := hid ha2
  replace hZ := hid hZ
  have hw1 := World.alloc_heap_new (w.alloc (tyB 0 7 0 (.slice none 0 0) (.slice none 0 0))) (pairB 0 7 0 (.slice none 0 0) (.slice none 0 0) 1 0 0 (.slice none 0 0) (.slice none 0 0))
  have HP := psolve_says ((w.alloc (tyB 0 7 0 (.slice none 0 0) (.slice none 0 0))).alloc (pairB 0 7 0 (.slice none 0 0) (.slice none 0 0) 1 0 0 (.slice none 0 0) (.slice none 0 0))) (some ⟨w.heap.size + 1, 0, none⟩) (w.heap.size + 1) 0 1 1 (fun _ => ⟨0, 7, 0, .slice none 0 0, .slice none 0 0⟩) (fun _ => ⟨1, 0, 0, .slice none 0 0, .slice none 0 0⟩) (fun _ => rfl) (prc_first (by rw [World.size_alloc] at hw1; exact hw1))
  have hc0 : Hid (Ch (fun _ => False) w ((w.alloc (tyB 0 7 0 (.slice none 0 0) (.slice none 0 0))).alloc (pairB 0 7 0 (.slice none 0 0) (.slice none 0 0) 1 0 0 (.slice none 0 0) (.slice none 0 0)))) := (al_ch _ _).trans (al_ch _ _) (fun _ h => h.elim)
  clear hw1
  go_enter Try.func3, Try.ntmps3
  go_upto_region 3 with (go_at_call 4; go_must (refine HP.mono ?_; clear HP; rintro en w1 ⟨K, Q, out, v, rfl, hA, hT, hc1⟩; obtain ⟨rfl, rfl, rfl⟩ := first_one hA; clear hA; replace hT := hid hT; replace hc1 := hid hc1))
  have hfb : Hid ((w1.alloc (.cells #[.int .i64 0, .int .i64 0] 30)).heap[w1.heap.size]? = some (.cells #[.int .i64 0, .int .i64 0] 30 (0, 0))) := World.alloc_heap_new w1 _
  have hc2 : Hid (Ch (fun _ => False) w (w1.alloc (.cells #[.int .i64 0, .int .i64 0] 30))) := (hc0.out.trans hc1.out (fun _ h => h.elim)).trans (al_ch w1 _) (fun _ h => h.elim)
  have hT2 : TysV (w1.alloc (.cells #[.int .i64 0, .int .i64 0] 30)) v [.int] := hT.out.keep (fun k hk => (al_ch w1 _).same k hk (fun h => h))
  clear hT hc0 hc1
  generalize w1.alloc (.cells #[.int .i64 0, .int .i64 0] 30) = W2 at *
  generalize w1.heap.size = fb at *
  obtain ⟨l0, l1, l2, l3⟩ := flt_cells hfb.out
  obtain ⟨va, vc, hve, hv2⟩ := hT2
  obtain ⟨vg, rfl, hv3⟩ := hv2 (by simp)
  obtain ⟨vo, vz, ⟨v0, -, -, -, -⟩, -⟩ := hv3 0 .int rfl
  simp only [Nat.zero_mul] at v0
  have v00 : W2.cell? ⟨vg, 0, none⟩ = some (.int .i64 1) := v0
  subst hve
  clear hv2 hv3 v0
  have hM2 := hid (hM.out.keep hc2.out)
  have hZ2 := hid (hZ.out.keep hc2.out)
  clear hM hZ
  obtain ⟨σ, hσ⟩ := sig_ex W2 n2 Z
  replace hσ := hid hσ
  by_cases h20 : (20 : Int) < n
  · go_wp2
    go_ret
    exact ⟨rfl, hc2.out⟩
  have hn20 : n ≤ 20 := by omega
  go_wp2
  clear l0 l1 l2 l3 v00
  have hSd0 : Hid (Sd W2 W2 σ (rho n2 Z) A B (.slice none 0 0) []) := ⟨Ch.refl _ _, World.ownsRow_nil _ _ _ _, (fun k hk => by cases hk), (fun j x hj => by simp at hj)⟩
  go_loopg [8, 9] (n + 1) (fun q v8 v9 wr => ∃ (i : Nat) (xs : List Raw), v9 = .int .i64 (i : Nat) ∧ i ≤ n ∧ q = n + 1 - i ∧ Hid (xs.length = i) ∧ Hid (Sd W2 wr σ (rho n2 Z) A B v8 xs) ∧ Hid (AllP W2 i A B))
  case atStart => exact ⟨0, [], rfl, by omega, by omega, rfl, hSd0, hid (fun j hj => absurd hj (by omega))⟩
  case round =>
    clear hSd0
    obtain ⟨i, xs, rfl, hi, rfl, hxl, hSd, hP⟩ := hrel
    rename_i v8
    by_cases e : i < n
    · have i0 : (0 : Int) ≤ i := by omega
      have i1 : (i : Int) < (n : Int) := by omega
      have hwi : IntKind.i64.wrap ((i : Int) + 1) = (i : Int) + 1 := IntWalk.i64_in _ (by omega)
      obtain rfl := ha.out (by omega)
      have hMr := hid (hM2.out.keep hSd.out.ch)
      obtain ⟨⟨a0, a1, a3, a4, a5⟩, ra⟩ := hMr.out.a i e
      obtain ⟨⟨b0, b1, b3, b4, b5⟩, rb⟩ := hMr.out.b i e
      have HA := proper_top wr (A i).k (A i).n (A i).r (A i).os (A i).az ra.rdb
      have pA : Hid (∀ w', Ch (fun _ => False) W2 w' → (PropR w' (A i) ↔ PropR W2 (A i))) := fun w' h => prop_iff h (hM2.out.a i e).2.rdb
      have pB : Hid (∀ w', Ch (fun _ => False) W2 w' → (PropR w' (B i) ↔ PropR W2 (B i))) := fun w' h => prop_iff h (hM2.out.b i e).2.rdb
      replace ra := hid ra
      replace rb := hid rb
      go_upto_region 12 with (go_at_call 5; go_must (refine HA.mono ?_; clear HA; rintro en w3 ⟨ok1, rfl, hb3, hf3⟩; replace hf3 := hid (hf3.trans (pA.out _ hSd.out.ch)); have hc3 := hid (below_ch hb3); clear hb3))
      have hS3 := hid (hSd.out.quiet hc3.out)
      have hM3 := hid (hM2.out.keep hS3.out.ch)
      clear a0 a1 a3 a4 a5 b0 b1 b3 b4 b5 hSd hMr ra rb hc3
      obtain ⟨⟨a0, a1, a3, a4, a5⟩, -⟩ := hM3.out.a i e
      obtain ⟨⟨b0, b1, b3, b4, b5⟩, rb⟩ := hM3.out.b i e
      have HB := proper_top w3 (B i).k (B i).n (B i).r (B i).os (B i).az rb.rdb
      replace rb := hid rb
      go_upto_region 13 with (go_at_call 5; go_must (refine HB.mono ?_; clear HB; rintro en w4 ⟨ok2, rfl, hb4, hf4⟩; replace hf4 := hid (hf4.trans (pB.out _ hS3.out.ch)); have hc4' := hid (below_ch hb4); clear hb4))
      have hS4 := hid (hS3.out.quiet hc4'.out)
      have hM4 := hid (hM2.out.keep hS4.out.ch)
      clear a0 a1 a3 a4 a5 b0 b1 b3 b4 b5 hS3 hM3 rb hc4'
      obtain ⟨⟨a0, a1, a3, a4, a5⟩, -⟩ := hM4.out.a i e
      obtain ⟨⟨b0, b1, b3, b4, b5⟩, -⟩ := hM4.out.b i e
      have hbad : ∀ w', Ch (fun _ => False) w4 w' → Ch (fun _ => False) w w' := fun w' h => (hc2.out.trans hS4.out.ch (fun _ h => h.elim)).trans h (fun _ h => h.elim)
      replace hbad := hid hbad
      cases ok1 with
      | false =>
        go_wp2
        go_ret
        exact ⟨rfl, hbad.out _ (Ch.refl _ _)⟩
      | true =>
      cases ok2 with
      | false =>
        go_wp2
        go_ret
        exact ⟨rfl, hbad.out _ (Ch.refl _ _)⟩
      | true =>
      obtain ⟨pa, fa, fa3⟩ := hf3.out.1 (by trivial)
      obtain ⟨pb, fb', fb3⟩ := hf4.out.1 (by trivial)
      have hab : Hid (∀ qa qb, FitsR W2 (A i) qa → FitsR W2 (B i) qb → qa = pa ∧ qb = pb) := fun qa qb h1 h2 => ⟨h1.one fa, h2.one fb'⟩
      have hPi : Hid (PropR W2 (A i) ∧ PropR W2 (B i)) := ⟨⟨pa, fa, fa3⟩, ⟨pb, fb', fb3⟩⟩
      clear hf3 hf4
      obtain ⟨ka, ae1, ae2, ae3, ia⟩ := fa
      rw [ae1] at a0
      rw [ae2] at a1
      rw [ae3] at a3
      have HYA := by_any 300 pa fa3 σ W2 w4 d a2 g2 o2 n2 c2 Z (A i).os (A i).az hS4.out.ch ha2.out hZ2.out hσ.out ia ka fa3
      obtain ⟨aq1, aq2, aq3, aq4, aq5, ah1, ah2, -⟩ := ia.slices
      rw [ah1] at a4 HYA
      rw [ah2] at a5 HYA
      clear ia ae1 ae2 ae3 ah1 ah2 ka b0 b1 b3 b4 b5
      generalize pa.ops.length = aq0 at *
      go_upto_region 16 with (go_at_call 6; go_must (refine HYA.mono ?_; clear HYA; rintro en w5 ⟨⟨xk, xn, xr, xo, xa⟩, dx, rfl, hx, hc5, hux⟩; obtain ⟨⟨x1, x2, x3, hx4⟩, ⟨x5, x6, x7, hx8⟩⟩ := (hx.rdd.rdb 1).up; simp only at hx4 hx8; subst hx4 hx8; replace hx := hid hx; replace hc5 := hid hc5; replace hux := hid hux))
      have hcA := al_ch w5 (tyB xk xn xr (.slice x1 x2 x3) (.slice x5 x6 x7))
      have hS5 := hid ((hS4.out.quiet hc5.out).quiet hcA)
      have hx5 := hid (hx.out.keep hcA (fun _ _ h => h))
      have hux5 : Hid (∀ u, FTR (w5.alloc (tyB xk xn xr (.slice x1 x2 x3) (.slice x5 x6 x7))) ⟨xk, xn, xr, .slice x1 x2 x3, .slice x5 x6 x7⟩ u → u = app σ (rho n2 Z) pa) := fun u hu => hux.out u (FT.backO hcA (fun _ _ h => h) hx.out hu)
      have hbx := hid (World.alloc_heap_new w5 (tyB xk xn xr (.slice x1 x2 x3) (.slice x5 x6 x7)))
      have hc45 : Hid (Ch (fun _ => False) w4 (w5.alloc (tyB xk xn xr (.slice x1 x2 x3) (.slice x5 x6 x7)))) := hc5.out.trans hcA (fun _ h => h.elim)
      clear hx hux hcA hc5 hM4 a0 a1 a3 a4 a5
      generalize w5.alloc (tyB xk xn xr (.slice x1 x2 x3) (.slice x5 x6 x7)) = W5 at *
      generalize w5.heap.size = xb at *
      have hM5 := hid (hM2.out.keep hS5.out.ch)
      obtain ⟨⟨b0, b1, b3, b4, b5⟩, -⟩ := hM5.out.b i e
      obtain ⟨kb, be1, be2, be3, ib⟩ := fb'
      rw [be1] at b0
      rw [be2] at b1
      rw [be3] at b3
      have HYB := by_any 300 pb fb3 σ W2 W5 d a2 g2 o2 n2 c2 Z (B i).os (B i).az hS5.out.ch ha2.out hZ2.out hσ.out ib kb fb3
      obtain ⟨bq1, bq2, bq3, bq4, bq5, bh1, bh2, -⟩ := ib.slices
      rw [bh1] at b4 HYB
      rw [bh2] at b5 HYB
      clear ib be1 be2 be3 bh1 bh2 kb
      generalize pb.ops.length = bq0 at *
      go_upto_region 17 with (go_at_call 6; go_must (refine HYB.mono ?_; clear HYB; rintro en w6 ⟨⟨yk, yn, yr, yo, ya⟩, dy, rfl, hy, hc6, huy⟩; obtain ⟨⟨y1, y2, y3, hy4⟩, ⟨y5, y6, y7, hy8⟩⟩ := (hy.rdd.rdb 1).up; simp only at hy4 hy8; subst hy4 hy8; replace hy := hid hy; replace hc6 := hid hc6; replace huy := hid huy))
      have hcB := al_ch w6 (tyB yk yn yr (.slice y1 y2 y3) (.slice y5 y6 y7))
      have hcAB := hc6.out.trans hcB (fun _ h => h.elim)
      have hS6 := hid (hS5.out.quiet hcAB)
      have hx6 := hid (hx5.out.keep hcAB (fun _ _ h => h))
      have hux6 : Hid (∀ u, FTR (w6.alloc (tyB yk yn yr (.slice y1 y2 y3) (.slice y5 y6 y7))) ⟨xk, xn, xr, .slice x1 x2 x3, .slice x5 x6 x7⟩ u → u = app σ (rho n2 Z) pa) := fun u hu => hux5.out u (FT.backO hcAB (fun _ _ h => h) hx5.out hu)
      have hy6 := hid (hy.out.keep hcB (fun _ _ h => h))
      have huy6 : Hid (∀ u, FTR (w6.alloc (tyB yk yn yr (.slice y1 y2 y3) (.slice y5 y6 y7))) ⟨yk, yn, yr, .slice y1 y2 y3, .slice y5 y6 y7⟩ u → u = app σ (rho n2 Z) pb) := fun u hu => huy.out u (FT.backO hcB (fun _ _ h => h) hy.out hu)
      have hbx6 := hid (hcAB.keeps hbx.out (fun h => h))
      have hby6 := hid (World.alloc_heap_new w6 (tyB yk yn yr (.slice y1 y2 y3) (.slice y5 y6 y7)))
      have hc46 : Hid (Ch (fun _ => False) w4 (w6.alloc (tyB yk yn yr (.slice y1 y2 y3) (.slice y5 y6 y7)))) := hc45.out.trans hcAB (fun _ h => h.elim)
      clear hx5 hux5 hy huy hcB hcAB hc6 hc45 hS5 hM5 hbx b0 b1 b3 b4 b5
      generalize w6.alloc (tyB yk yn yr (.slice y1 y2 y3) (.slice y5 y6 y7)) = W6 at *
      generalize w6.heap.size = yb at *
      obtain ⟨t0, t1, t2, t3, t4⟩ := (ty_cells hbx6.out).1
      have HPX := proper_top W6 xk xn xr (.slice x1 x2 x3) (.slice x5 x6 x7) (hx6.out.rdd.rdb 301)
      go_upto_region 18 with (go_at_call 5; go_must (refine HPX.mono ?_; clear HPX; rintro en w7 ⟨ok3, rfl, hb7, hf7⟩; replace hf7 := hid hf7; have hc7 := hid (below_ch hb7); clear hb7))
      clear t0 t1 t2 t3 t4
      obtain ⟨t0, t1, t2, t3, t4⟩ := (ty_cells (hc7.out.keeps hbx6.out (fun h => h))).1
      obtain ⟨s0, s1, s2, s3, s4⟩ := (ty_cells (hc7.out.keeps hby6.out (fun h => h))).1
      have HSM := same_any_ty (max dx dy) W6 w7 xk xn xr (.slice x1 x2 x3) (.slice x5 x6 x7) yk yn yr (.slice y1 y2 y3) (.slice y5 y6 y7) hc7.out (hx6.out.rdd.up (Nat.le_max_left _ _)) (hy6.out.rdd.up (Nat.le_max_right _ _))
      go_upto_region 19 with (go_at_call 7; go_must (refine HSM.mono ?_; clear HSM; rintro en w8 ⟨ok4, rfl, hc8, hf8⟩; replace hf8 := hid hf8; replace hc8 := hid hc8))
      have hc68 : Hid (Ch (fun _ => False) W6 w8) := hc7.out.trans hc8.out (fun _ h => h.elim)
      have hc48 : Hid (Ch (fun _ => False) w4 w8) := hc46.out.trans hc68.out (fun _ h => h.elim)
      clear t0 t1 t2 t3 t4 s0 s1 s2 s3 s4 hc7 hc8
      obtain ⟨t0, t1, t2, t3, t4⟩ := (ty_cells (hc68.out.keeps hbx6.out (fun h => h))).1
      cases ok3 with
      | false =>
        go_wp2
        go_ret
        exact ⟨rfl, hbad.out _ hc48.out⟩
      | true =>
      cases ok4 with
      | false =>
        go_wp2
        go_ret
        exact ⟨rfl, hbad.out _ hc48.out⟩
      | true =>
      obtain ⟨u, ⟨uok, ue1, ue2, ue3, ui⟩, u3⟩ := hf7.out.1 (by trivial)
      have hu6 : FTR W6 ⟨xk, xn, xr, .slice x1 x2 x3, .slice x5 x6 x7⟩ u := ⟨ue1, ue2, ue3, ui⟩
      have hua := hux6.out u hu6
      have hub := huy6.out u ((hf8.out u hu6).1 (by trivial))
      have hx8 := hx6.out.keep hc68.out (fun _ _ h => h)
      have hu8 := FT.fwd hc68.out hu6
      have hrow8 := ownsRow_keep hS4.out.row (w' := w8.alloc (tyB xk xn xr (.slice x1 x2 x3) (.slice x5 x6 x7))) (fun k hk => (hc48.out.trans (al_ch w8 _) (fun _ h => h.elim)).same k (ownsRow_lt hS4.out.row hk) (fun h => h))
      obtain ⟨v9, w9, hr9, hrow9, hgrow9, hblk9⟩ := run_append_ty hrow8 (World.alloc_heap_new w8 _) ⟨_, _, _, rfl⟩ ⟨_, _, _, rfl⟩ (by have := hxl.out; omega) 25
      have hnx := hid (hS4.out.next hc48.out hx8 hu8 uok u3 (fun qa qb h1 h2 => by
        rw [hxl.out] at h1 h2
        obtain ⟨rfl, rfl⟩ := hab.out qa qb h1 h2
        exact ⟨hua, hua.symm.trans hub⟩) hrow9 hgrow9 hblk9)
      have hPn : Hid (AllP W2 (i + 1) A B) := fun j hj => by
        by_cases ej : j = i
        · subst ej; exact hPi.out
        · exact hP.out j (by omega)
      obtain ⟨v9a, v9c, hv9, -⟩ := row_slice hrow9
      subst hv9
      rw [hxl.out] at hr9 hnx
      clear hrow8 hrow9 hgrow9 hblk9 hx8 hu8 hua hub hu6 ue1 ue2 ue3 ui uok u3 hS6 hx6 hux6 hy6 huy6 hf7 hf8 hbx6 hby6 hS4 hc46 hc48 hc68 hab hPi hP hbad
      go_wp2_with (at_builtin; go_must (refine wpList_append_run rfl (.tmp 95) (.tmp 97) 25 rfl rfl rfl hr9 ?_); clear hr9)
      go_roundg (n - i)
      case measure => omega
      case rel => exact ⟨i + 1, xs ++ [⟨xk, xn, xr, .slice x1 x2 x3, .slice x5 x6 x7⟩], by simp, by omega, by omega, hid (by simp [hxl.out]), hnx, hPn⟩
    · have hin : n = i := by omega
      subst hin
      have i1 : ¬ (n : Int) < (n : Int) := by omega
      have HS := psolve_says wr a g o n c A B ha.out (hM2.out.keep hSd.out.ch)
      go_upto_region 23 with (go_at_call 4; go_must (refine HS.mono ?_; clear HS; rintro en w3 ⟨K2, Q2, out, v3, rfl, hA, hT, hc3⟩; replace hA := hid hA; replace hT := hid hT; obtain ⟨l0, l1, l2, l3⟩ := flt_cells ((hSd.out.ch.trans hc3 (fun _ h => h.elim)).keeps hfb.out (fun h => h)); replace hc3 := hid hc3))
      have hfs := fits_sides hSd.out hxl.out hn20 hP.out hM2.out hA.out
      obtain ⟨rfl, rfl, hol, θ, ρ', hρ, hok, hfit⟩ := hfs
      have hfb3 := (hSd.out.ch.trans hc3.out (fun _ h => h.elim)).keeps hfb.out (fun h => h)
      have hc34 : Ch (fun _ => False) w3 ((w3.setCell ⟨fb, 0, none⟩ (.int .i64 0)).setCell ⟨fb, 1, none⟩ (.int .i64 0)) := by
        have q := ((Ch.refl (fun j => j = fb) w3).setX fb 0 (.int .i64 0) (.inl rfl)).setX fb 1 (.int .i64 0) (.inl rfl)
        exact ⟨q.size, fun k _ _ => zero_same hfb3 k, q.eo⟩
      have hT4 := hT.out.keep (w' := (w3.setCell ⟨fb, 0, none⟩ (.int .i64 0)).setCell ⟨fb, 1, none⟩ (.int .i64 0)) (fun k _ => zero_same hfb3 k)
      have hS4 := hid (hSd.out.quiet (hc3.out.trans hc34 (fun _ h => h.elim)))
      have hfit4 : Hid (∀ (j : Nat) (t : Ty.P) (x : Raw), out[j]? = some t → xs[j]? = some x → FTR ((w3.setCell ⟨fb, 0, none⟩ (.int .i64 0)).setCell ⟨fb, 1, none⟩ (.int .i64 0)) x (app θ ρ' t) ∧ (app θ ρ' t).parts ≤ 300) := fun j t x h1 h2 => ⟨FT.fwd (hc3.out.trans hc34 (fun _ h => h.elim)) (hfit j t x h1 h2).1, (hfit j t x h1 h2).2⟩
      have hfb4 := hc34.keeps hfb3 (fun h => h)
      clear l0 l1 l2 l3 hfit hA hT hSd hP hfb3 hc3 hc34
      replace hρ := hid hρ
      replace hok := hid hok
      generalize (w3.setCell ⟨fb, 0, none⟩ (.int .i64 0)).setCell ⟨fb, 1, none⟩ (.int .i64 0) = W4 at *
      obtain ⟨l0, l1, l2, l3⟩ := flt_cells hfb4
      obtain ⟨va3, vc3, hv3, hel⟩ := hT4
      rw [hol] at hv3
      subst hv3
      replace hel := hid hel
      have hm1 := fun w' : World => run_makeMap_plain (P := Try.prog) (w := w') 38
      have hm2 := fun w' : World => run_makeMap_plain (P := Try.prog) (w := w') 39
      go_upto_region 26 with (fail)
      have e1 := al_ch W4 (.map #[] 0)
      have e2 := al_ch (W4.alloc (.map #[] 0)) (.map #[] 0)
      have e3 := al_ch ((W4.alloc (.map #[] 0)).alloc (.map #[] 0)) (.cells #[.map (some W4.heap.size), .map (some (W4.heap.size + 1))] 41)
      have hcM := (e1.trans e2 (fun _ h => h.elim)).trans e3 (fun _ h => h.elim)
      have b1 := World.alloc_heap_new W4 (.map #[] 0)
      have b2 := World.alloc_heap_new (W4.alloc (.map #[] 0)) (.map #[] 0)
      rw [World.size_alloc] at b2
      have b3 := World.alloc_heap_new ((W4.alloc (.map #[] 0)).alloc (.map #[] 0)) (.cells #[.map (some W4.heap.size), .map (some (W4.heap.size + 1))] 41)
      rw [World.size_alloc, World.size_alloc] at b3
      have hF0 : Hid (FitM W4 (((W4.alloc (.map #[] 0)).alloc (.map #[] 0)).alloc (.cells #[.map (some W4.heap.size), .map (some (W4.heap.size + 1))] 41)) W4.heap.size (W4.heap.size + 1) θ ρ') := ⟨hcM, by omega, by omega, by omega, ⟨[], MVal.empty (blk_alloc (blk_alloc b1)), fun n v h => by cases h⟩, ⟨[], MVal.empty (blk_alloc b2), fun n v h => by cases h⟩⟩
      have hne : ¬ (W4.heap.size + 1 + 1 = W4.heap.size ∨ W4.heap.size + 1 + 1 = W4.heap.size + 1) := by omega
      have hmb := hid b3
      clear e1 e2 e3 hcM b1 b2 b3 hm1 hm2 l0 l1 l2 l3
      generalize ((W4.alloc (.map #[] 0)).alloc (.map #[] 0)).alloc (.cells #[.map (some W4.heap.size), .map (some (W4.heap.size + 1))] 41) = W5 at *
      generalize W4.heap.size + 1 + 1 = mb at *
      generalize W4.heap.size + 1 = R at *
      generalize hTe : W4.heap.size = T at *
      replace hTe := hid hTe
      go_wp2
      go_loopg [16] (n + 1) (fun q v16 wr => ∃ i : Nat, v16 = .int .i64 (i : Nat) ∧ i ≤ n ∧ q = n + 1 - i ∧ Hid (FitM W4 wr T R θ ρ') ∧ Hid (Ch (fun k => k = T ∨ k = R) W5 wr))
      case atStart => exact ⟨0, rfl, by omega, by omega, hF0, Ch.refl _ _⟩
      case round =>
        clear hF0
        obtain ⟨i, rfl, hi, rfl, hF, hC⟩ := hrel
        by_cases e : i < n
        · have i0 : (0 : Int) ≤ i := by omega
          have i1 : (i : Int) < (n : Int) := by omega
          have hwi : IntKind.i64.wrap ((i : Int) + 1) = (i : Int) + 1 := IntWalk.i64_in _ (by omega)
          obtain ⟨t, ht⟩ : ∃ t, out[i]? = some t := ⟨_, List.getElem?_eq_getElem (by omega)⟩
          obtain ⟨x, hx⟩ : ∃ x, xs[i]? = some x := ⟨_, List.getElem?_eq_getElem (by have := hxl.out; omega)⟩
          obtain ⟨xg, rfl, hel2⟩ := hel.out (fun h => by rw [h] at ht; simp at ht)
          obtain ⟨ot, zt, hE, hI⟩ := hel2 i t ht
          obtain ⟨tok, t3⟩ := hok.out t (List.mem_of_getElem? ht)
          obtain ⟨⟨q1, q2, q3, q4⟩, u3⟩ := hfit4.out i t x ht hx
          have hcB := hF.out.ch
          obtain ⟨v8a, v8c, hv8, h80, -⟩ := row_slice hS4.out.row
          obtain ⟨yg, rfl⟩ : ∃ yg, v8a = some ⟨yg, 0, none⟩ := by
            rcases h80 with h | h
            · have := hxl.out
              omega
            · exact h
          have hrow' : W4.ownsRow 0 27 5 (.slice (some ⟨yg, 0, none⟩) xs.length v8c) xs.length (xs.flatMap rawC) := by
            have h := hS4.out.row
            rw [hv8] at h
            exact h
          have hE2 := rowC hrow' hx
          rw [hxl.out] at hv8
          subst hv8
          clear hrow'
          obtain ⟨u, hu⟩ : ∃ u, u = app θ ρ' t := ⟨_, rfl⟩
          rw [← hu] at q1 q2 q3 q4 u3
          rw [q1, q2, q3] at hE2
          have n1 := hne
          have n4 : ¬ (xg = T ∨ xg = R) := by have := hE.lt; have := hF.out.lT; have := hF.out.lR; omega
          have n5 : ¬ (yg = T ∨ yg = R) := by have := hE2.lt; have := hF.out.lT; have := hF.out.lR; omega
          have hpr : IsProp wr t.kind t.num t.row ot zt := ⟨t, ⟨tok, rfl, rfl, rfl, IsT.carry (fun k hk => hcB.same k hk (fun h => h)) hI⟩, t3⟩
          have HPT := proper_top wr t.kind t.num t.row ot zt (((hI.rdd (n := 300) t3 (by omega)).carry hcB).rdb 301)
          have HK0 := fun (W : World) (hW : Ch (fun _ => False) wr W) => fits_any 300 t t3 (hF.out.quiet hW) hρ.out tok t3 u3 hI q4 hu
          have hEE := hid hE
          have hEE2 := hid hE2
          obtain ⟨f1, f3, f4, f5, f6, rfl, rfl, -⟩ := hI.slices
          obtain ⟨g1, g3, g4, g5, g6, hos, haz, -⟩ := q4.slices
          rw [hos, haz] at HK0 hEE2 hE2
          generalize t.ops.length = f2 at *
          generalize u.ops.length = g2x at *
          obtain ⟨p1, p2, p3, p4, p5⟩ := hE.of_heap (hcB.same _ hE.lt (fun h => h))
          clear hI q1 q2 q3 q4 hu hos haz hE hE2 ht hx hel2 tok t3 u3 h80
          replace hpr := hid hpr
          go_upto_region 30 with (go_at_call 5; go_must (refine HPT.mono ?_; clear HPT; rintro en w7 ⟨ok5, rfl, hb7, hf7⟩; obtain rfl : ok5 = true := hf7.2 hpr.out; clear hf7; have hc7 := hid (below_ch hb7); clear hb7))
          clear p1 p2 p3 p4 p5
          have hcB7 := hcB.trans hc7.out (fun _ h => h.elim)
          have HK := fun (W : World) (hW : Ch (fun _ => False) w7 W) => HK0 W (hc7.out.trans hW (fun _ h => h.elim))
          obtain ⟨c0f, c1f⟩ : w7.cell? ⟨mb, 0, none⟩ = some (.map (some T)) ∧ w7.cell? ⟨mb, 1, none⟩ = some (.map (some R)) := by
            have h := hc7.out.keeps (hC.out.keeps hmb.out hne) (fun h => h)
            exact ⟨by rw [cellB h]; rfl, by rw [cellB h]; rfl⟩
          obtain ⟨p1, p2, p3, p4, p5⟩ := hEE.out.of_heap (hcB7.same _ hEE.out.lt (fun h => h))
          obtain ⟨p6, p7, p8, p9, p10⟩ := hEE2.out.of_heap (hcB7.same _ hEE2.out.lt (fun h => h))
          clear HK0 hcB hcB7 hEE hEE2 hpr
          go_upto_region 32 with (fail)
          have hS0 : (fun w' => w'.cell? ⟨mb, 0, none⟩ = some (.map (some T)) ∧ w'.cell? ⟨mb, 1, none⟩ = some (.map (some R)) ∧ w'.cell? ⟨xg, i * 5, none⟩ = some (.int .i64 t.kind) ∧ w'.cell? ⟨xg, i * 5 + 1, none⟩ = some (.int .i64 t.num) ∧ w'.cell? ⟨xg, i * 5 + 2, none⟩ = some (.int .i64 t.row) ∧ w'.cell? ⟨xg, i * 5 + 3, none⟩ = some (.slice f1 f2 f3) ∧ w'.cell? ⟨xg, i * 5 + 4, none⟩ = some (.slice f4 f5 f6) ∧ w'.cell? ⟨yg, i * 5, none⟩ = some (.int .i64 u.kind) ∧ w'.cell? ⟨yg, i * 5 + 1, none⟩ = some (.int .i64 u.num) ∧ w'.cell? ⟨yg, i * 5 + 2, none⟩ = some (.int .i64 u.row) ∧ w'.cell? ⟨yg, i * 5 + 3, none⟩ = some (.slice g1 g2x g3) ∧ w'.cell? ⟨yg, i * 5 + 4, none⟩ = some (.slice g4 g5 g6)) w7.drew := ⟨cell_keeps (Ch.drew (fun _ => False) w7) c0f, cell_keeps (Ch.drew (fun _ => False) w7) c1f, cell_keeps (Ch.drew (fun _ => False) w7) p1, cell_keeps (Ch.drew (fun _ => False) w7) p2, cell_keeps (Ch.drew (fun _ => False) w7) p3, cell_keeps (Ch.drew (fun _ => False) w7) p4, cell_keeps (Ch.drew (fun _ => False) w7) p5, cell_keeps (Ch.drew (fun _ => False) w7) p6, cell_keeps (Ch.drew (fun _ => False) w7) p7, cell_keeps (Ch.drew (fun _ => False) w7) p8, cell_keeps (Ch.drew (fun _ => False) w7) p9, cell_keeps (Ch.drew (fun _ => False) w7) p10⟩
          refine wp_region_held_drew (S := (fun w' => w'.cell? ⟨mb, 0, none⟩ = some (.map (some T)) ∧ w'.cell? ⟨mb, 1, none⟩ = some (.map (some R)) ∧ w'.cell? ⟨xg, i * 5, none⟩ = some (.int .i64 t.kind) ∧ w'.cell? ⟨xg, i * 5 + 1, none⟩ = some (.int .i64 t.num) ∧ w'.cell? ⟨xg, i * 5 + 2, none⟩ = some (.int .i64 t.row) ∧ w'.cell? ⟨xg, i * 5 + 3, none⟩ = some (.slice f1 f2 f3) ∧ w'.cell? ⟨xg, i * 5 + 4, none⟩ = some (.slice f4 f5 f6) ∧ w'.cell? ⟨yg, i * 5, none⟩ = some (.int .i64 u.kind) ∧ w'.cell? ⟨yg, i * 5 + 1, none⟩ = some (.int .i64 u.num) ∧ w'.cell? ⟨yg, i * 5 + 2, none⟩ = some (.int .i64 u.row) ∧ w'.cell? ⟨yg, i * 5 + 3, none⟩ = some (.slice g1 g2x g3) ∧ w'.cell? ⟨yg, i * 5 + 4, none⟩ = some (.slice g4 g5 g6))) (by kernel_rfl) (by first | trivial | ((try dsimp only); go_keep)) (fun hHeld => ?_)
          refine wpAnyH_take (i := 0) (v := ?vvxh1) rfl (by kernel_rfl) (by kernel_rfl) (by kernel_rfl) (fun _ _ _ h => h) (Or.inl ⟨by rfl, ?yyxh1⟩) (by assumption) ?rrxh1
          case yyxh1 => (intro w' hSw; (try dsimp only at hSw); go_simp; (try with_reducible rfl))
          try simp only [Act.put, List.setIfInBounds_toArray, List.set_cons_zero, List.set_cons_succ]
          refine wpAnyH_take (i := 1) (v := ?vvxh2) rfl (by kernel_rfl) (by kernel_rfl) (by kernel_rfl) (fun _ _ _ h => h) (Or.inl ⟨by rfl, ?yyxh2⟩) (by assumption) ?rrxh2
          case yyxh2 => (intro w' hSw; (try dsimp only at hSw); go_simp; (try with_reducible rfl))
          try simp only [Act.put, List.setIfInBounds_toArray, List.set_cons_zero, List.set_cons_succ]
          refine wpAnyH_take (i := 2) (v := ?vvxh3) rfl (by kernel_rfl) (by kernel_rfl) (by kernel_rfl) (fun _ _ _ h => h) (Or.inl ⟨by rfl, ?yyxh3⟩) (by assumption) ?rrxh3
          case yyxh3 => (intro w' hSw; (try dsimp only at hSw); go_simp; (try with_reducible rfl))
          try simp only [Act.put, List.setIfInBounds_toArray, List.set_cons_zero, List.set_cons_succ]
          refine wpAnyH_take (i := 3) (v := ?vvxh4) rfl (by kernel_rfl) (by kernel_rfl) (by kernel_rfl) (fun _ _ _ h => h) (Or.inl ⟨by rfl, ?yyxh4⟩) (by assumption) ?rrxh4
          case yyxh4 => (intro w' hSw; (try dsimp only at hSw); go_simp; (try with_reducible rfl))
          try simp only [Act.put, List.setIfInBounds_toArray, List.set_cons_zero, List.set_cons_succ]
          refine wpAnyH_take (i := 4) (v := ?vvxh5) rfl (by kernel_rfl) (by kernel_rfl) (by kernel_rfl) (fun _ _ _ h => h) (Or.inl ⟨by rfl, ?yyxh5⟩) (by assumption) ?rrxh5
          case yyxh5 => (intro w' hSw; (try dsimp only at hSw); go_simp; (try with_reducible rfl))
          try simp only [Act.put, List.setIfInBounds_toArray, List.set_cons_zero, List.set_cons_succ]
          refine wpAnyH_take (i := 5) (v := ?vvxh6) rfl (by kernel_rfl) (by kernel_rfl) (by kernel_rfl) (fun _ _ _ h => h) (Or.inl ⟨by rfl, ?yyxh6⟩) (by assumption) ?rrxh6
          case yyxh6 => (intro w' hSw; (try dsimp only at hSw); go_simp; (try with_reducible rfl))
          try simp only [Act.put, List.setIfInBounds_toArray, List.set_cons_zero, List.set_cons_succ]
          refine wpAnyH_take (i := 6) (v := ?vvxh7) rfl (by kernel_rfl) (by kernel_rfl) (by kernel_rfl) (fun _ _ _ h => h) (Or.inl ⟨by rfl, ?yyxh7⟩) (by assumption) ?rrxh7
          case yyxh7 => (intro w' hSw; (try dsimp only at hSw); go_simp; (try with_reducible rfl))
          try simp only [Act.put, List.setIfInBounds_toArray, List.set_cons_zero, List.set_cons_succ]
          refine wpAnyH_take (i := 7) (v := ?vvxh8) rfl (by kernel_rfl) (by kernel_rfl) (by kernel_rfl) (fun _ _ _ h => h) (Or.inl ⟨by rfl, ?yyxh8⟩) (by assumption) ?rrxh8
          case yyxh8 => (intro w' hSw; (try dsimp only at hSw); go_simp; (try with_reducible rfl))
          try simp only [Act.put, List.setIfInBounds_toArray, List.set_cons_zero, List.set_cons_succ]
          refine wpAnyH_take (i := 8) (v := ?vvxh9) rfl (by kernel_rfl) (by kernel_rfl) (by kernel_rfl) (fun _ _ _ h => h) (Or.inl ⟨by rfl, ?yyxh9⟩) (by assumption) ?rrxh9
          case yyxh9 => (intro w' hSw; (try dsimp only at hSw); go_simp; (try with_reducible rfl))
          try simp only [Act.put, List.setIfInBounds_toArray, List.set_cons_zero, List.set_cons_succ]
          refine wpAnyH_ready (rs := [9]) (by kernel_rfl) (by simp) (AllReadyH.cons rfl (fun K hK => ?_) AllReadyH.nil)
          go_simp
          refine (HK _ (Ch.drew (fun _ => False) w7)).mono ?_
          clear HK
          rintro en w8 ⟨rfl, hM8, hc8⟩
          have hc1 : Ch (fun k => k = T ∨ k = R) w7 w8 := (((Ch.drew (fun _ => False) w7)).mono (fun _ h => h.elim)).trans hc8 (fun _ h => .inl h)
          have hS5 : (fun w' => w'.cell? ⟨mb, 0, none⟩ = some (.map (some T)) ∧ w'.cell? ⟨mb, 1, none⟩ = some (.map (some R)) ∧ w'.cell? ⟨xg, i * 5, none⟩ = some (.int .i64 t.kind) ∧ w'.cell? ⟨xg, i * 5 + 1, none⟩ = some (.int .i64 t.num) ∧ w'.cell? ⟨xg, i * 5 + 2, none⟩ = some (.int .i64 t.row) ∧ w'.cell? ⟨xg, i * 5 + 3, none⟩ = some (.slice f1 f2 f3) ∧ w'.cell? ⟨xg, i * 5 + 4, none⟩ = some (.slice f4 f5 f6) ∧ w'.cell? ⟨yg, i * 5, none⟩ = some (.int .i64 u.kind) ∧ w'.cell? ⟨yg, i * 5 + 1, none⟩ = some (.int .i64 u.num) ∧ w'.cell? ⟨yg, i * 5 + 2, none⟩ = some (.int .i64 u.row) ∧ w'.cell? ⟨yg, i * 5 + 3, none⟩ = some (.slice g1 g2x g3) ∧ w'.cell? ⟨yg, i * 5 + 4, none⟩ = some (.slice g4 g5 g6)) w8 := ⟨cell_ch hc1 c0f n1, cell_ch hc1 c1f n1, cell_ch hc1 p1 n4, cell_ch hc1 p2 n4, cell_ch hc1 p3 n4, cell_ch hc1 p4 n4, cell_ch hc1 p5 n4, cell_ch hc1 p6 n5, cell_ch hc1 p7 n5, cell_ch hc1 p8 n5, cell_ch hc1 p9 n5, cell_ch hc1 p10 n5⟩
          replace hM8 := hid hM8
          replace hc1 := hid hc1
          clear hc8
          dsimp only
          clear hHeld
          refine hK.out _ _ ?hs (fun hHeld => ?_)
          case hs => (first | exact hS5 | trivial | ((try dsimp only); go_keep) | ((try dsimp only); simp [*, World.cell?_alloc_some, World.cell?_setCell_far, World.cell?_setCell_other]))
          clear hK K
          try simp only [Act.put, List.setIfInBounds_toArray, List.set_cons_zero, List.set_cons_succ]
          refine wpAnyH_take (i := 10) (v := ?vvxh10) rfl (by kernel_rfl) (by kernel_rfl) (by kernel_rfl) (fun _ _ _ h => h) (Or.inl ⟨by rfl, ?yyxh10⟩) (by assumption) ?rrxh10
          case yyxh10 => (intro w' hSw; (try dsimp only at hSw); go_simp; (try with_reducible rfl))
          try simp only [Act.put, List.setIfInBounds_toArray, List.set_cons_zero, List.set_cons_succ]
          refine wpAnyH_done (by kernel_rfl) ?_ _
          clear hHeld
          clear hS0 hS5 p1 p2 p3 p4 p5 p6 p7 p8 p9 p10 c0f c1f
          have hCn : Hid (Ch (fun k => k = T ∨ k = R) W5 w8) := (hC.out.trans hc7.out (fun _ h => h.elim)).trans hc1.out (fun _ h => .inl h)
          clear hC hF hc7 hc1
          go_wp2
          go_roundg (n - i)
          case measure => omega
          case rel => exact ⟨i + 1, by simp, by omega, by omega, hM8, hCn⟩
        · have hin : n = i := by omega
          subst hin
          have i1 : ¬ (n : Int) < (n : Int) := by omega
          go_wp2
          go_ret
          exact ⟨rfl, (hc2.out.trans hS4.out.ch (fun _ h => h.elim)).trans hF.out.ch (fun _ h => h.elim)⟩
end Go.Proofs.Ytcogpcalghfghaa
