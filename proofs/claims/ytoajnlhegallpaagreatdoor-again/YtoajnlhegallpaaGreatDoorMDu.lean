/-
  What the program's rules do: square.
  What the program's rules do: atom.
-/
import Derived.Test.YtoajnlhegallpaaGreatDoorMDt
set_option linter.unusedVariables false
set_option linter.unusedSimpArgs false
set_option maxRecDepth 100000
set_option maxHeartbeats 4000000
namespace Go.Proofs.YtoajnlhegallpaaGreatDoor
open Go.RowKit

structure Sx (w : World) (b A R lo : Nat) (z : Sy.Env) (X : Sy.Tr) (ts : List Lx.Tk) (e d : Nat) (v : Value) (ls : List (Sy.Tr × Value)) (W : World) : Prop where
 row : RowS W lo v ls
 var : ∃ a l c, Blk W A [.int .i64 X.kind, .int .i64 X.pos, .string ⟨X.name.toArray⟩, .int .i64 X.num, .slice a l c] ∧ Kids W (Fo lo v) (.slice a l c) X.kids
 res : ∃ r0 r1 r2 r3 r4, Blk W R [r0, r1, r2, r3, r4]
 rd : Dr W b z ts e d
 kp : Kp b w W
 size : lo ≤ W.heap.size
section
variable {w W W' : World} {b A R lo e d : Nat} {z : Sy.Env} {X : Sy.Tr} {ts us : List Lx.Tk} {v : Value} {ls : List (Sy.Tr × Value)}
theorem Sx.step (h : Sx w b A R lo z X ts e d v ls W) (hr : Dr W' b z us e d) (hk : Kp b W W') (h1 : A ≠ b) (h2 : R ≠ b) (h3 : b < lo) : Sx w b A R lo z X us e d v ls W' := by
 obtain ⟨h4, ⟨a, l, c, h5, h6⟩, ⟨r0, r1, r2, r3, r4, h7⟩, _, h9, h10⟩ := h
 exact ⟨h4.kp hk h3, ⟨a, l, c, h5.kp hk h1, h6.kpF hk (fun g hg => by have := hg.1; omega)⟩, ⟨r0, r1, r2, r3, r4, h7.kp hk h2⟩, hr, h9.trans hk, Nat.le_trans h10 hk.size⟩
theorem Sx.past (h : Sx w b A R lo z X ts e d v ls W) (hk : Below W.heap.size W W') : Sx w b A R lo z X ts e d v ls W' := by
 obtain ⟨h4, ⟨a, l, c, h5, h6⟩, ⟨r0, r1, r2, r3, r4, h7⟩, h8, h9, h10⟩ := h
 exact ⟨h4.past hk, ⟨a, l, c, h5.past hk, h6.pastF hk⟩, ⟨r0, r1, r2, r3, r4, h7.past hk⟩, h8.below hk, h9.below hk, Nat.le_trans h10 hk.size⟩
theorem Sx.alloc (h : Sx w b A R lo z X ts e d v ls W) (o : Obj) : Sx w b A R lo z X ts e d v ls (W.alloc o) := h.past ((Below.refl _ _).alloc (Nat.le_refl _) o)
theorem Sx.drew (h : Sx w b A R lo z X ts e d v ls W) : Sx w b A R lo z X ts e d v ls W.drew := h.past (Below.refl _ _).drew
theorem Sx.app {g cap : Nat} {T : Sy.Tr} {kv : Value} (h : Sx w b A R lo z X ts e d v ls W) (hX : X.kids = []) (hA : A < lo) (hR : R < lo) (hb : b < lo) (hw : w.heap.size ≤ lo)
  (ho : W'.ownsRow lo 24 5 (.slice (some ⟨g, 0, none⟩) (ls.length + 1) cap) (ls.length + 1) (rowCells ls ++ nodeCells T kv)) (hg : W.grownBy W' v.ownBlock) (hat : v.ownBlock = some g ∨ g = W.heap.size) (hk : Kids W (Fo lo v) kv T.kids) :
  Sx w b A R lo z X ts e d (.slice (some ⟨g, 0, none⟩) (ls.length + 1) cap) (ls ++ [(T, kv)]) W' := by
 obtain ⟨h4, ⟨a, l, c, h5, h6⟩, ⟨r0, r1, r2, r3, r4, h7⟩, h8, h9, h10⟩ := h
 have hne : ∀ q, q < lo → some q ≠ v.ownBlock := fun q hq e0 => by
  have := (h4.own.lt q e0.symm).1
  omega
 exact ⟨h4.app ho hg hat hk, ⟨a, l, c, h5.grown hg (hne A hA), h6.empty hX⟩, ⟨r0, r1, r2, r3, r4, h7.grown hg (hne R hR)⟩, h8.grown hg (fun q hq => hne q (by omega)), h9.grown hg (fun q hq => hne q (by omega)), Nat.le_trans h10 hg.size⟩
theorem Sx.put (h : Sx w b A R lo z X ts e d v ls W) (T : Sy.Tr) {a : Option Addr} {l c : Nat} (hk : Kids W (Fo lo v) (.slice a l c) T.kids) (hA : A < lo) (hb : b < A) (hw : w.heap.size ≤ A) (hRA : R ≠ A)
  (kk pp nn : Int) (xx : ByteArray) (e1 : kk = T.kind) (e2 : pp = T.pos) (e3 : xx = ⟨T.name.toArray⟩) (e4 : nn = T.num) :
  ∃ V, ((((W.setCell ⟨A, 0, none⟩ (.int .i64 kk)).setCell ⟨A, 1, none⟩ (.int .i64 pp)).setCell ⟨A, 2, none⟩ (.string xx)).setCell ⟨A, 3, none⟩ (.int .i64 nn)).setCell ⟨A, 4, none⟩ (.slice a l c) = V ∧ Hid (Sx w b A R lo z T ts e d v ls V) := by
 subst e1 e2 e3 e4
 obtain ⟨h4, ⟨a1, l1, c1, h5, h6⟩, ⟨r0, r1, r2, r3, r4, h7⟩, h8, h9, h10⟩ := h
 refine ⟨_, rfl, ?_, ⟨a, l, c, h5.store _ _ _ _ _, hk.carry (fun g hg _ => sto5_heap _ _ _ _ _ _ _ _ (by have := hg.1; omega)) (fun g hg _ => hg)⟩, ⟨r0, r1, r2, r3, r4, h7.of_heap (sto5_heap _ _ _ _ _ _ _ _ hRA)⟩, h8.sto5 hb _ _ _ _ _, sto5_kp h9 hw _ _ _ _ _, by simp; omega⟩
 exact h4.heap (by simp) (fun g hg => sto5_heap _ _ _ _ _ _ _ _ (by omega))
end

theorem dsquare (N e d : Nat) (hN : N ≤ 90000) (z : Sy.Env) (E : List Lx.Tk → Sy.R Sy.Tr) (hE : EOK N e d z E) (w : World) (b p : Nat) (ts : List Lx.Tk) (h : Dr w b z ts e d) (hn : ts.length < N) :
  Calls Tryz.prog 176 #[.pointer (some ⟨b, 0, none⟩), .int .i64 p] w fun en w' => DRes w b z (Sy.squareB z N E p ts) e d en w' := by
 obtain ⟨i0, hi, hiz0, hiz1, hiz2⟩ := info_parts Tryz.info36
 have H := hid h
 have hbR : b < w.heap.size := h.lt
 clear h
 go_enter Tryz.func176, Tryz.ntmps176
 go_wp2_with fail
 obtain ⟨W0, hW0, HI⟩ := jn1 H.out 24
 rw [hW0]
 clear hW0
 have hz0 := HI.out.size
 obtain ⟨W1, hW1, HB1, HRd1, HKp1, hs1, hu1⟩ := jblk_new (.int .i64 15) (.int .i64 p) (.string ⟨#[]⟩) (.int .i64 0) (.slice none 0 0) HI.out.rd (Kp.refl b W0) 24
 have HRS1 := hid ((show Blk _ w.heap.size [_, _, _, _, _] by repeat (with_reducible (first | exact HI.out.one | apply Blk.drew))).kp HKp1.out (by omega))
 have HKA1 := hid ((show Kp b w _ by repeat (with_reducible (first | exact HI.out.kp | apply Kp.drew))).trans HKp1.out)
 rw [hz0] at HB1
 have HWW := hid hW1
 clear hW1
 try go_wp2_with fail
 rw [HWW.out]
 refine (dtakes _ b z ts e d Sy.s_rs (by decide) (by repeat (with_reducible (first | exact HRd1.out | apply Dr.drew)))).mono ?_
 intro en w2 HD
 rcases hx2 : Sy.takesB z Sy.s_rs ts with f2 | ⟨v2, ts2⟩
 ·obtain ⟨rfl, HK2⟩ := HD.no hx2
  have HKE := hid ((show Kp b w _ by repeat (with_reducible (first | exact HKA1.out | apply Kp.drew))).trans HK2.out)
  go_wp2_with fail
  exact ⟨rfl, DRes.err (by simp [Sy.squareB, Sy.iteB_takes, Sy.bnd, hx2]) HKE.out⟩
 have H2 := hid hx2
 have hn2 : ts2.length < N := Nat.lt_of_le_of_lt (le_takes (Nat.le_refl _) _ _ hx2) hn
 obtain ⟨rfl, HR2, HK2⟩ := HD.yes hx2
 clear hx2 HD
 have ht2 := HK2.out.size
 have HBn_2 := hid ((show Blk _ (w.heap.size + 1) [_, _, _, _, _] by repeat (with_reducible (first | exact HB1.out | apply Blk.drew))).kp HK2.out (by omega))
 have HRS2 := hid ((show Blk _ w.heap.size [_, _, _, _, _] by repeat (with_reducible (first | exact HRS1.out | apply Blk.drew))).kp HK2.out (by omega))
 have HKA2 := hid ((show Kp b w _ by repeat (with_reducible (first | exact HKA1.out | apply Kp.drew))).trans HK2.out)
 cases v2 with
 | true =>
  obtain ⟨⟨p0, p1, p2, p3, p4⟩, p5, p6, p7, p8, p9⟩ := blk5 HBn_2.out
  obtain ⟨⟨u1_0, u1_1, u1_2, u1_3, u1_4⟩, u1_5, u1_6, u1_7, u1_8, u1_9⟩ := blk5 HRS2.out
  go_wp2_with fail
  refine bodyPost_ret (v := .agg #[.int .i64 15, .int .i64 p, .string ⟨([] : List UInt8).toArray⟩, .int .i64 0, .slice none 0 0]) (by simp [results, Tryz.results176, go_sem, u1_0, u1_1, u1_2, u1_3, u1_4]) rfl ?_
  exact dres_fin (lo := W0.heap.size) (Sy.nd 15 p []) ts2 .nil HR2.out HKA2.out (by simp [Sy.squareB, Sy.iteB_takes, Sy.bnd, H2.out]) (by omega) (by omega) (by omega) _ _ _ _ rfl rfl rfl rfl _ _ _ _ _
 | false =>
  obtain ⟨N2, hN2⟩ : ∃ N2, N = N2 + 1 := ⟨N - 1, by omega⟩
  have HN2 := hid hN2
  clear hN2
  go_wp2_with fail
  refine (hE.calls _ b ts2 (by repeat (with_reducible (first | exact HR2.out | apply Dr.drew))) hn2).mono ?_
  intro en w3 HD
  rcases hx3 : E ts2 with f3 | ⟨y3, ts3⟩
  ·obtain ⟨rfl, HK3⟩ := HD.no hx3
   have HKE := hid ((show Kp b w _ by repeat (with_reducible (first | exact HKA2.out | apply Kp.drew))).trans HK3.out)
   go_wp2_with fail
   exact ⟨rfl, DRes.err (by simp [Sy.squareB, Sy.squaresB, Sy.iteB_takes, Sy.bnd, H2.out, HN2.out, hx3]) HKE.out⟩
  have H3 := hid hx3
  have hn3 : ts3.length < N := Nat.lt_of_le_of_lt (hE.le _ _ (Nat.le_refl _) _ _ hx3) hn2
  obtain ⟨a3, l3, c3, rfl, HKd3, HR3, HK3⟩ := HD.yes hx3
  clear hx3 HD
  have ht3 := HK3.out.size
  have HBn_3 := hid ((show Blk _ (w.heap.size + 1) [_, _, _, _, _] by repeat (with_reducible (first | exact HBn_2.out | apply Blk.drew))).kp HK3.out (by omega))
  have HRS3 := hid ((show Blk _ w.heap.size [_, _, _, _, _] by repeat (with_reducible (first | exact HRS2.out | apply Blk.drew))).kp HK3.out (by omega))
  have HKA3 := hid ((show Kp b w _ by repeat (with_reducible (first | exact HKA2.out | apply Kp.drew))).trans HK3.out)
  have HX0 : Hid (Sx w b (w.heap.size + 1) w.heap.size W1.heap.size z (Sy.nd 15 p []) ts3 e d (.slice (some ⟨w3.heap.size, 0, none⟩) 1 1) [(y3, (.slice a3 l3 c3 : Value))] (w3.alloc (.cells #[.int .i64 y3.kind, .int .i64 y3.pos, .string ⟨y3.name.toArray⟩, .int .i64 y3.num, .slice a3 l3 c3] 24))) := ⟨rowS_lit [(y3, (.slice a3 l3 c3 : Value))] (by simp) w3.heap.size rfl #[.int .i64 y3.kind, .int .i64 y3.pos, .string ⟨y3.name.toArray⟩, .int .i64 y3.num, .slice a3 l3 c3] rfl 1 rfl (by decide) (by omega) (by intro q hq; simp only [List.mem_cons, List.not_mem_nil, or_false] at hq; subst hq; exact HKd3.out.weak (fun g hg _ => Nat.le_trans (by omega) hg)), ⟨none, 0, 0, HBn_3.out.alloc _, .nil⟩, ⟨_, _, _, _, _, HRS3.out.alloc _⟩, HR3.out.alloc _, HKA3.out.alloc _, by simp; omega⟩
  have HE0 : Hid (Sy.iteB z Sy.s_comma ts3 (fun ts => Sy.squaresB z E N2 ([(y3, (.slice a3 l3 c3 : Value))].map (·.1)) ts) (fun ts => .ok ([(y3, (.slice a3 l3 c3 : Value))].map (·.1), ts)) = Sy.squaresB z E N [] ts2) := by rw [Hid, HN2.out]; simp [Sy.squaresB, Sy.bnd, H3.out]
  have hls : ts3.length ≤ N2 := by have := HN2.out; omega
  go_wp2_with fail
  go_loopg [6] N2 (fun n v wr => ∃ (ls : List (Sy.Tr × Value)) (tr : List Lx.Tk), Hid (Sx w b (w.heap.size + 1) w.heap.size W1.heap.size z (Sy.nd 15 p []) tr e d v ls wr) ∧ Hid (Sy.iteB z Sy.s_comma tr (fun ts => Sy.squaresB z E n (ls.map (·.1)) ts) (fun ts => .ok (ls.map (·.1), ts)) = Sy.squaresB z E N [] ts2) ∧ tr.length ≤ n ∧ tr.length < N ∧ ls.length + n = N ∧ ls ≠ [])
  case atStart => exact ⟨[(y3, (.slice a3 l3 c3 : Value))], ts3, HX0, HE0, hls, hn3, by have := HN2.out; simp; omega, by simp⟩
  case round =>
   obtain ⟨ls, tr, HXr, HE, hM, hnr, hlen, hls0⟩ := hrel
   obtain ⟨ax, lx, cx, hAx, _⟩ := HXr.out.var
   have hAr : (w.heap.size + 1) < wr.heap.size := Blk.lt hAx
   clear hAx
   have hzr := HXr.out.size
   have HLB := hid (len_bytes (n := ls.length) (N := N + 3) (by omega) (by omega))
   go_wp2_with fail
   refine (dtakes _ b z tr e d Sy.s_comma (by decide) HXr.out.rd).mono ?_
   intro en wt HD
   rcases hxt : Sy.takesB z Sy.s_comma tr with ft | ⟨vt, tt⟩
   ·obtain ⟨rfl, HKt⟩ := HD.no hxt
    have HKE := hid (HXr.out.kp.trans HKt.out)
    have HSQ : Hid (Sy.squaresB z E N [] ts2 = .error ft) := by rw [Hid, ← HE.out, Sy.iteB_takes]; simp [Sy.bnd, hxt]
    go_wp2_with fail
    exact ⟨rfl, DRes.err (by simp [Sy.squareB, Sy.iteB_takes, Sy.bnd, H2.out, HSQ.out]) HKE.out⟩
   have HT := hid hxt
   obtain ⟨rfl, HRt, HKt⟩ := HD.yes hxt
   clear hxt HD
   have htt := HKt.out.size
   have hnt : tt.length < N := Nat.lt_of_le_of_lt (le_takes (Nat.le_refl _) _ _ HT.out) hnr
   have HX := hid (HXr.out.step HRt.out HKt.out (by omega) (by omega) (by omega))
   cases vt with
   | true =>
    have hlt := lt_takes (by decide) HT.out
    obtain ⟨m, hm⟩ : ∃ m, gk = m + 1 := ⟨gk - 1, by omega⟩
    subst hm
    go_wp2_with fail
    refine (hE.calls _ b tt HX.out.rd hnt).mono ?_
    intro en w8 HD
    rcases hx8 : E tt with f8 | ⟨y8, ts8⟩
    ·obtain ⟨rfl, HK8⟩ := HD.no hx8
     have HKE := hid (HX.out.kp.trans HK8.out)
     have HSQ : Hid (Sy.squaresB z E N [] ts2 = .error f8) := by rw [Hid, ← HE.out, Sy.iteB_takes]; simp [Sy.bnd, HT.out, Sy.squaresB, hx8]
     go_wp2_with fail
     exact ⟨rfl, DRes.err (by simp [Sy.squareB, Sy.iteB_takes, Sy.bnd, H2.out, HSQ.out]) HKE.out⟩
    have H8 := hid hx8
    have hle8 := hE.le _ _ (Nat.le_refl _) _ _ hx8
    obtain ⟨a8, l8, c8, rfl, HKd8, HR8, HK8⟩ := HD.yes hx8
    clear hx8 HD
    have ht8 := HK8.out.size
    have HXS := hid (HX.out.step HR8.out HK8.out (by omega) (by omega) (by omega))
    have HXA := hid (HXS.out.alloc (.cells #[.int .i64 y8.kind, .int .i64 y8.pos, .string ⟨y8.name.toArray⟩, .int .i64 y8.num, .slice a8 l8 c8] 24))
    have HNW := hid (node_news (w := w8) (T := y8) (a := a8) (l := l8) (c := c8) (ty := 24) (H := w8.heap.size) rfl)
    go_wp2_with (at_builtin; go_must (refine wpList_append_lies _ rfl _ _ 22 rfl W1.heap.size 24 i0 (.agg #[.int .i64 0, .int .i64 0, .string ⟨#[]⟩, .int .i64 0, .slice none 0 0]) 5 64 Tryz.underlying22 hi hiz0 hiz1 hiz2 rfl (by decide) u6 ls.length (rowCells ls) rfl HXA.out.row.own ⟨w8.heap.size, 0, none⟩ 1 1 (nodeCells y8 (.slice a8 l8 c8)) rfl rfl HNW.out (node_one _ _ _ _) (by decide) HLB.out.1 HLB.out.2 HXA.out.size _ rfl ?_); intro ga capa w9 hown hgrow hat hlt9)
    have HKT : Hid (Kids (w8.alloc (.cells #[.int .i64 y8.kind, .int .i64 y8.pos, .string ⟨y8.name.toArray⟩, .int .i64 y8.num, .slice a8 l8 c8] 24)) (Fo W1.heap.size u6) (.slice a8 l8 c8) y8.kids) := by
     refine (HKd8.out.weak (fun q hq hlt2 => ⟨by omega, ?_⟩)).pastF ((Below.refl _ _).alloc (Nat.le_refl _) _)
     intro e0
     have h1 := (HX.out.row.own.lt q e0.symm).2
     omega
    have HX2 := hid (HXA.out.app rfl (by omega) (by omega) (by omega) (by omega) hown hgrow hat HKT.out)
    have HE2 : Hid (Sy.iteB z Sy.s_comma ts8 (fun ts => Sy.squaresB z E m ((ls ++ [(y8, (.slice a8 l8 c8 : Value))]).map (·.1)) ts) (fun ts => .ok ((ls ++ [(y8, (.slice a8 l8 c8 : Value))]).map (·.1), ts)) = Sy.squaresB z E N [] ts2) := by rw [Hid, ← HE.out, Sy.iteB_takes z Sy.s_comma tr]; simp [Sy.bnd, HT.out, Sy.squaresB, H8.out]
    go_roundg m
    case measure => omega
    case rel => exact ⟨_, _, HX2, HE2, by omega, by omega, by simp; omega, by simp⟩
   | false =>
    have HSQ : Hid (Sy.squaresB z E N [] ts2 = .ok (ls.map (·.1), tt)) := by rw [Hid, ← HE.out, Sy.iteB_takes]; simp [Sy.bnd, HT.out]
    go_wp2_with fail
    refine (dneed _ b z tt e d Sy.s_rs (by decide) HX.out.rd).mono ?_
    intro en wn HD
    rcases hxn : Sy.needB z Sy.s_rs tt with fn | ⟨un, tn⟩
    ·obtain ⟨rfl, HKn⟩ := HD.no hxn
     have HKE := hid (HX.out.kp.trans HKn.out)
     go_wp2_with fail
     exact ⟨rfl, DRes.err (by simp [Sy.squareB, Sy.iteB_takes, Sy.bnd, H2.out, HSQ.out, hxn]) HKE.out⟩
    have HNN := hid hxn
    obtain ⟨rfl, HRn, HKn⟩ := HD.yes hxn
    clear hxn HD
    have htn := HKn.out.size
    have HX3 := hid (HX.out.step HRn.out HKn.out (by omega) (by omega) (by omega))
    obtain ⟨gf, cf, hvf⟩ := HX3.out.row.form hls0
    subst hvf
    have hx : Hid (Sy.squareB z N E p ts = .ok (Sy.consUp (ls.map (·.1)) (Sy.nd 15 p []), tn)) := by simp [Hid, Sy.squareB, Sy.iteB_takes, Sy.bnd, H2.out, HSQ.out, HNN.out]
    have hll : ls.length ≤ 90000 := by omega
    go_wp2_with fail
    go_loopg [7] ls.length (fun n u wr => u = .int .i64 ((n : Int) - 1) ∧ n ≤ ls.length ∧ Hid (Sx w b (w.heap.size + 1) w.heap.size W1.heap.size z (Sy.consUp ((ls.drop n).map (·.1)) (Sy.nd 15 p [])) tn e d (.slice (some ⟨gf, 0, none⟩) ls.length cf) ls wr))
    case atStart => exact ⟨rfl, Nat.le_refl _, by rw [List.drop_length]; exact HX3⟩
    case round =>
     obtain ⟨hu, hnl, HF⟩ := hrel
     subst hu
     obtain ⟨aA, lA, cA, hVA, hKA⟩ := HF.out.var
     obtain ⟨r0, r1, r2, r3, r4, hRA⟩ := HF.out.res
     have HVA := hid hVA
     have HKA := hid hKA
     have HRA := hid hRA
     have hAl := hVA.lt
     clear hVA hKA hRA
     obtain ⟨⟨q0, q1, q2, q3, q4⟩, q5, q6, q7, q8, q9⟩ := blk5 HVA.out
     rcases gk with _ | j
     ·have hge : ¬ (0 : Int) ≤ ((0 : Nat) : Int) - 1 := by omega
      obtain ⟨⟨u0, u1, u2, u3, u4⟩, u5, u6x, u7x, u8, u9⟩ := blk5 HRA.out
      have HXX := hid hx.out
      simp only [List.drop_zero] at HF HVA HKA q0 q1 q2 q3
      generalize hTT : Sy.consUp (ls.map (·.1)) (Sy.nd 15 p []) = TT at *
      go_wp2_with fail
      refine bodyPost_ret (v := .agg #[.int .i64 TT.kind, .int .i64 TT.pos, .string ⟨TT.name.toArray⟩, .int .i64 TT.num, .slice aA lA cA]) (by simp [results, Tryz.results176, go_sem, u0, u1, u2, u3, u4]) rfl ?_
      exact dres_fin (lo := W1.heap.size) TT tn (HKA.out.weak (fun g hg _ => hg.1)) HF.out.rd HF.out.kp hx.out (by omega) (by omega) (by omega) _ _ _ _ rfl rfl rfl rfl _ _ _ _ _
     ·have hj : (((j + 1 : Nat) : Int) - 1) = (j : Int) := by omega
      have hge : (0 : Int) ≤ (j : Int) := by omega
      have hjl : j < ls.length := by omega
      have hji : (j : Int) < ls.length := by omega
      rw [hj]
      clear hj
      have hce := rowS_cells HF.out.row j hjl
      obtain ⟨k0, k1, k2, k3, k4⟩ := hce
      have hgl := (HF.out.row.own.lt gf rfl).2
      have hgo := (HF.out.row.own.lt gf rfl).1
      have HEK := hid (HF.out.row.kids ls[j] (List.getElem_mem hjl))
      have HUP : Hid (Sy.consUp ((ls.drop j).map (·.1)) (Sy.nd 15 p []) = Sy.nd 16 ls[j].1.pos [ls[j].1, Sy.consUp ((ls.drop (j + 1)).map (·.1)) (Sy.nd 15 p [])]) := by rw [Hid, List.drop_eq_getElem_cons hjl, List.map_cons]; rfl
      generalize hX : Sy.consUp ((ls.drop (j + 1)).map (·.1)) (Sy.nd 15 p []) = T2 at *
      have HKS := hid (Kids.slice HEK.out)
      obtain ⟨ae, ce, hkv⟩ := HKS.out
      generalize hle : ls[j].1.kids.length = le at *
      generalize hY : ls[j].1 = t at *
      generalize hZ : ls[j].2 = kv at *
      subst hkv
      have hgA : ¬ (w.heap.size + 1) = gf := by omega
      go_wp2_with fail
      go_region_with (first
       | (go_at_call 108; refine (djoined _ (Fo W1.heap.size (.slice (some ⟨gf, 0, none⟩) ls.length cf)) 16 t T2 [] ae aA le ce lA cA (fun g hg => by (try simp at hg); exact ⟨by omega, by rw [ob_slice]; intro e0; have := Option.some.inj e0; omega⟩) (by repeat (with_reducible (first | exact HEK.out | apply Kids.drew))) (by repeat (with_reducible (first | exact HKA.out | apply Kids.drew)))).mono ?_; rintro en wj ⟨gj, rfl, HNj, HBj⟩; have HXj := hid ((show Sx _ _ _ _ _ _ _ _ _ _ _ _ _ by repeat (with_reducible (first | exact HF.out | apply Sx.drew))).past HBj.out); obtain ⟨aB, lB, cB, hVB, _⟩ := HXj.out.var; obtain ⟨⟨m0, m1, m2, m3, m4⟩, m5, m6, m7, m8, m9⟩ := blk5 hVB; have HVB := hid hVB; clear hVB))
      all_goals
       obtain ⟨V, hV, HLV⟩ := HXj.out.put (Sy.nd 16 t.pos [t, T2]) HNj.out (by omega) (by omega) (by omega) (by omega) 16 t.pos 0 ⟨#[]⟩ rfl rfl rfl rfl
       have HVV := hid hV
       clear hV
       go_wp2_with fail
       rw [HVV.out]
       go_roundg j
       case measure => omega
       case rel => exact ⟨rfl, by omega, by rw [HUP.out]; exact HLV⟩

open Go.RowKit

theorem begins_ne {z : Sy.Env} {ts us : List Lx.Tk} {t : Lx.Tk} (hl : Sy.lookB z ts = .ok (t, us)) (hb : Sy.beginsB t = true) : ts = t :: ts.tail := by
 refine look_some hl ?_
 by_cases hk : t.kind = 0
 ·refine .inl ?_
  intro hx
  simp [Sy.beginsB, hk, hx, Sy.s_tilde, Sy.w_true, Sy.w_false, Sy.s_lp, Sy.s_ls] at hb
 ·exact .inr hk

theorem kind_mem {z : Sy.Env} {t : Lx.Tk} {ts us : List Lx.Tk} (h : Sy.kindB z 1 ts = .ok (t, us)) : t ∈ ts := by
 unfold Sy.kindB at h
 rcases hl : Sy.lookB z ts with f | ⟨t2, vs⟩
 ·rw [hl] at h; cases h
 ·rw [hl, Sy.bnd_ok] at h
  by_cases hk : (t2.kind == 1) = true
  ·have hk2 : t2.kind ≠ 0 := by
    have : t2.kind = 1 := by simpa using hk
    rw [this]; decide
   rw [if_pos hk] at h
   cases h
   rw [look_some hl (.inr hk2)]
   simp
  ·rw [if_neg hk] at h; cases h
theorem DRes.drew {w W : World} {b e d : Nat} {z : Sy.Env} {x : Sy.R Sy.Tr} {en : Ending} (h : DRes w b z x e d en W) : DRes w b z x e d en W.drew := by
 rcases x with f | ⟨T, ts⟩
 ·exact ⟨h.1, h.2.out.drew⟩
 ·obtain ⟨a, l, c, h1, h2, h3, h4⟩ := h
  exact ⟨a, l, c, h1, h2.out.drew, h3.out.drew, h4.out.drew⟩

theorem datom (N e d : Nat) (hN : N ≤ 90000) (z : Sy.Env) (E : List Lx.Tk → Sy.R Sy.Tr) (hE : EOK N e d z E) : ROK 166 N e d z (Sy.atomB z N E) := by
 intro w b ts h hn
 have H := hid h
 have hbR : b < w.heap.size := h.lt
 clear h
 go_enter Tryz.func166, Tryz.ntmps166
 go_wp2_with fail
 obtain ⟨W0, hW0, HI⟩ := jn1 H.out 24
 rw [hW0]
 clear hW0
 have hz0 := HI.out.size
 rcases hl1 : Sy.lookB z ts with f1 | ⟨t1, us1⟩
 ·refine (dlook _ b z ts e d (by repeat (with_reducible (first | exact HI.out.rd | apply Dr.drew)))).mono ?_
  intro en w1 HD
  obtain ⟨rfl, HK1⟩ := HD.no (f := f1) (by simp [Sy.bnd, hl1])
  have HKE := hid ((show Kp b w _ by repeat (with_reducible (first | exact HI.out.kp | apply Kp.drew))).trans HK1.out)
  go_wp2_with fail
  exact ⟨rfl, DRes.err (by simp [Sy.atomB, Sy.iteB_takes, Sy.bnd, hl1]) HKE.out⟩
 have HL1 : Hid (Sy.lookB z ts = .ok (t1, ts)) := by obtain ⟨h1, _⟩ := look_ok hl1; rw [Hid, hl1, h1]
 clear hl1
 refine (dlook _ b z ts e d (by repeat (with_reducible (first | exact HI.out.rd | apply Dr.drew)))).mono ?_
 intro en w2 HD
 obtain ⟨rfl, HR2, HK2⟩ := HD.yes HL1.out
 dsimp only [tkV]
 clear HD
 have ht2 := HK2.out.size
 have HRS2 := hid ((show Blk _ w.heap.size [_, _, _, _, _] by repeat (with_reducible (first | exact HI.out.one | apply Blk.drew))).kp HK2.out (by omega))
 have HKA2 := hid ((show Kp b w _ by repeat (with_reducible (first | exact HI.out.kp | apply Kp.drew))).trans HK2.out)
 go_wp2_with fail
 refine (dbegins _ t1).mono ?_
 rintro en w3 ⟨rfl, HB3⟩
 have ht3 := HB3.out.size
 have HRS3 := hid ((show Blk _ w.heap.size [_, _, _, _, _] by repeat (with_reducible (first | exact HRS2.out | apply Blk.drew))).past HB3.out)
 have HKA3 := hid ((show Kp b w _ by repeat (with_reducible (first | exact HKA2.out | apply Kp.drew))).below HB3.out)
 have HR3 := hid ((show Dr _ b z ts e d by repeat (with_reducible (first | exact HR2.out | apply Dr.drew))).below HB3.out)
 cases hb : Sy.beginsB t1 with
 | false =>
  have HWR : Hid (Sy.wrongF z ts = (4, t1.pos)) := by simp [Hid, Sy.wrongF, HL1.out]
  have HXE : Hid (Sy.atomB z N E ts = .error (4, t1.pos)) := by
   simp only [Sy.beginsB, Bool.or_eq_false_iff] at hb
   obtain ⟨⟨⟨⟨⟨⟨h1, h2⟩, h3⟩, h4⟩, h5⟩, h6⟩, h7⟩ := hb
   simp [Hid, Sy.atomB, Sy.bnd, HL1.out, h1, h2, h3, h4, h5, h6, h7]
  go_wp2_with fail
  refine (dwrong _ b z ts e d (by repeat (with_reducible (first | exact HR3.out | apply Dr.drew)))).mono ?_
  rintro en wz ⟨rfl, HKz⟩
  rw [HWR.out]
  have HKE := hid ((show Kp b w _ by repeat (with_reducible (first | exact HKA3.out | apply Kp.drew))).trans HKz.out)
  go_wp2_with fail
  exact ⟨rfl, DRes.err HXE.out HKE.out⟩
 | true =>
  go_wp2_with fail
  have HTS1 : Hid (ts = t1 :: ts.tail) := begins_ne HL1.out hb
  have hlt1 : ts.tail.length < N := by simp only [List.length_tail]; omega
  have HBB := hid hb
  clear hb
  refine (dtake _ b z t1 ts.tail e d (by rw [← HTS1.out]; repeat (with_reducible (first | exact HR3.out | apply Dr.drew)))).mono ?_
  intro en w4 HD
  obtain ⟨rfl, HR4, HK4⟩ := HD.yes rfl
  dsimp only [tkV]
  clear HD
  have ht4 := HK4.out.size
  have HRS4 := hid ((show Blk _ w.heap.size [_, _, _, _, _] by repeat (with_reducible (first | exact HRS3.out | apply Blk.drew))).kp HK4.out (by omega))
  have HKA4 := hid ((show Kp b w _ by repeat (with_reducible (first | exact HKA3.out | apply Kp.drew))).trans HK4.out)
  obtain ⟨⟨u1_0, u1_1, u1_2, u1_3, u1_4⟩, u1_5, u1_6, u1_7, u1_8, u1_9⟩ := blk5 HRS4.out
  have hlw : w.heap.size < w4.heap.size := Blk.lt HRS4.out
  by_cases hk2 : t1.kind = 2
  ·skip
   have HKK := hid hk2
   have hkb : ((t1.kind : Int) == 2) = true := by simp; omega
   clear hk2
   go_wp2_with fail
   go_region
   all_goals go_wp2_with fail
   all_goals
    refine bodyPost_ret (v := .agg #[.int .i64 6, .int .i64 t1.pos, .string ⟨t1.text.toArray⟩, .int .i64 0, .slice none 0 0]) (by simp [results, Tryz.results166, go_sem, u1_0, u1_1, u1_2, u1_3, u1_4, hlw]) rfl ?_
    repeat (with_reducible (first | apply DRes.drew | refine DRes.alloc ?_ _))
    exact dres_fin (lo := W0.heap.size) (Sy.nm 6 t1.pos t1.text []) ts.tail .nil HR4.out HKA4.out (by simp [Sy.atomB, Sy.iteB_takes, Sy.bnd, HL1.out, HKK.out]) (by omega) (by omega) (by omega) _ _ _ _ rfl rfl rfl rfl _ _ _ _ _
  have HK2 := hid hk2
  have hk2b : ((t1.kind : Int) == 2) = false := by simp; omega
  clear hk2
  by_cases hk1 : t1.kind = 1
  ·skip
   have HKK := hid hk1
   have hkb : ((t1.kind : Int) == 1) = true := by simp; omega
   clear hk1 hk2b HK2
   have hk2b : ((t1.kind : Int) == 2) = false := by have := HKK.out; simp; omega
   go_wp2_with fail
   go_region
   all_goals go_wp2_with fail
   all_goals
    refine bodyPost_ret (v := .agg #[.int .i64 3, .int .i64 t1.pos, .string ⟨([] : List UInt8).toArray⟩, .int .i64 t1.num, .slice none 0 0]) (by simp [results, Tryz.results166, go_sem, u1_0, u1_1, u1_2, u1_3, u1_4, hlw]) rfl ?_
    repeat (with_reducible (first | apply DRes.drew | refine DRes.alloc ?_ _))
    exact dres_fin (lo := W0.heap.size) (.mk 3 t1.pos [] t1.num []) ts.tail .nil HR4.out HKA4.out (by simp [Sy.atomB, Sy.iteB_takes, Sy.bnd, HL1.out, HKK.out]) (by omega) (by omega) (by omega) _ _ _ _ rfl rfl rfl rfl _ _ _ _ _
  have HK1 := hid hk1
  have hk1b : ((t1.kind : Int) == 1) = false := by simp; omega
  clear hk1
  cases hv0 : (t1.text == Sy.s_tilde) with
  | true =>
   have hu0 : (t1.text == [126]) = true := hv0
   obtain ⟨Wt, hWt, HBt, HRt, HKt, hst, hut⟩ := jtok_new t1 HR4.out (Kp.refl b w4) 41
   obtain ⟨Wn, hWn, HBn, HRn, HKn, hsn, hun⟩ := jblk_new (.int .i64 0) (.int .i64 t1.pos) (.string ⟨#[]⟩) (.int .i64 0) (.slice none 0 0) HRt.out HKt.out 24
   have HRSn := hid (HRS4.out.kp HKn.out (by omega))
   have HKAn := hid (HKA4.out.trans HKn.out)
   rw [hst] at HBn
   have HWt := hid hWt
   have HWn := hid hWn
   clear hWt hWn
   go_wp2_with fail
   rw [HWt.out, HWn.out]
   refine (dneedKind _ b z ts.tail e d 1 (by decide) (by repeat (with_reducible (first | exact HRn.out | apply Dr.drew)))).mono ?_
   intro en w5 HD
   rcases hx5 : Sy.kindB z 1 ts.tail with f5 | ⟨t5, ts5⟩
   ·obtain ⟨rfl, HK5⟩ := HD.no hx5
    have HKE := hid ((show Kp b w _ by repeat (with_reducible (first | exact HKAn.out | apply Kp.drew))).trans HK5.out)
    go_wp2_with fail
    exact ⟨rfl, DRes.err (by simp [Sy.atomB, Sy.iteB_takes, Sy.bnd, HL1.out, HK2.out, HK1.out, hv0, hx5]) HKE.out⟩
   have H5 := hid hx5
   have hn5 : ts5.length < N := Nat.lt_of_le_of_lt (le_kind (Nat.le_refl _) _ _ hx5) hlt1
   have hnum : t5.num ≤ 9223372036854775807 := by
    have hmem := kind_mem hx5
    exact (HRn.out.good _ hmem).2
   obtain ⟨rfl, HR5, HK5⟩ := HD.yes hx5
   dsimp only [tkV]
   obtain ⟨hg0, hg1, hg2, hg3⟩ := fld_tk (.int .i64 t5.kind) (.int .i64 t5.pos) (.string ⟨t5.text.toArray⟩) (.int .i64 t5.num)
   have HBm := hid (HBn.out.kp HK5.out (by omega))
   have HRm := hid (HRSn.out.kp HK5.out (by omega))
   have HKm := hid (HKAn.out.trans HK5.out)
   clear HD hx5
   obtain ⟨⟨b0, b1, b2, b3, b4⟩, b5, b6, b7, b8, b9⟩ := blk5 HBm.out
   obtain ⟨⟨r0, r1, r2, r3, r4⟩, r5, r6, r7, r8, r9⟩ := blk5 HRm.out
   have hneA : ¬ (w4.heap.size + 1) = w.heap.size := by omega
   have hneB : ¬ w.heap.size = (w4.heap.size + 1) := by omega
   go_wp2_with fail
   refine bodyPost_ret (v := .agg #[.int .i64 3, .int .i64 t1.pos, .string ⟨#[]⟩, .int .i64 (-(t5.num : Int)), .slice none 0 0]) (by simp [results, Tryz.results166, go_sem, r0, r1, r2, r3, r4, hneA, hneB]) rfl ?_
   exact dres_fin (lo := W0.heap.size) (W := (w5.setCell ⟨(w4.heap.size + 1), 0, none⟩ (.int .i64 3)).setCell ⟨(w4.heap.size + 1), 3, none⟩ (.int .i64 (-(t5.num : Int)))) (.mk 3 t1.pos [] (-t5.num) []) ts5 .nil ((HR5.out.other (by omega) _ _).other (by omega) _ _) ((HKm.out.other (by omega) _ _).other (by omega) _ _) (by simp [Sy.atomB, Sy.iteB_takes, Sy.bnd, HL1.out, HK2.out, HK1.out, hv0, H5.out]) (by omega) (by omega) (by omega) _ _ _ _ rfl rfl rfl rfl _ _ _ _ _
  | false =>
   cases hv1 : (t1.text == Sy.w_true) with
   | true =>
    have hu0 : (t1.text == [126]) = false := hv0
    have hu1 : (t1.text == [116, 114, 117, 101]) = true := hv1
    go_wp2_with fail
    refine bodyPost_ret (v := .agg #[.int .i64 4, .int .i64 t1.pos, .string ⟨([] : List UInt8).toArray⟩, .int .i64 1, .slice none 0 0]) (by simp [results, Tryz.results166, go_sem, u1_0, u1_1, u1_2, u1_3, u1_4, hlw]) rfl ?_
    repeat (with_reducible (first | apply DRes.drew | refine DRes.alloc ?_ _))
    exact dres_fin (lo := W0.heap.size) (.mk 4 t1.pos [] 1 []) ts.tail .nil HR4.out HKA4.out (by simp [Sy.atomB, Sy.iteB_takes, Sy.bnd, HL1.out, HK2.out, HK1.out, hv0, hv1]) (by omega) (by omega) (by omega) _ _ _ _ rfl rfl rfl rfl _ _ _ _ _
   | false =>
    cases hv2 : (t1.text == Sy.w_false) with
    | true =>
     have hu0 : (t1.text == [126]) = false := hv0
     have hu1 : (t1.text == [116, 114, 117, 101]) = false := hv1
     have hu2 : (t1.text == [102, 97, 108, 115, 101]) = true := hv2
     go_wp2_with fail
     refine bodyPost_ret (v := .agg #[.int .i64 4, .int .i64 t1.pos, .string ⟨([] : List UInt8).toArray⟩, .int .i64 0, .slice none 0 0]) (by simp [results, Tryz.results166, go_sem, u1_0, u1_1, u1_2, u1_3, u1_4, hlw]) rfl ?_
     repeat (with_reducible (first | apply DRes.drew | refine DRes.alloc ?_ _))
     exact dres_fin (lo := W0.heap.size) (Sy.nd 4 t1.pos []) ts.tail .nil HR4.out HKA4.out (by simp [Sy.atomB, Sy.iteB_takes, Sy.bnd, HL1.out, HK2.out, HK1.out, hv0, hv1, hv2]) (by omega) (by omega) (by omega) _ _ _ _ rfl rfl rfl rfl _ _ _ _ _
    | false =>
     cases hv3 : (t1.text == Sy.s_lp) with
     | true =>
      have hu0 : (t1.text == [126]) = false := hv0
      have hu1 : (t1.text == [116, 114, 117, 101]) = false := hv1
      have hu2 : (t1.text == [102, 97, 108, 115, 101]) = false := hv2
      have hu3 : (t1.text == [40]) = true := hv3
      obtain ⟨Wt, hWt, HBt, HRt, HKt, hst, hut⟩ := jtok_new t1 HR4.out (Kp.refl b w4) 41
      obtain ⟨Wn, hWn, HBn, HRn, HKn, hsn, hun⟩ := jblk_new (.int .i64 0) (.int .i64 t1.pos) (.string ⟨#[]⟩) (.int .i64 0) (.slice none 0 0) HRt.out HKt.out 24
      have HRSn := hid (HRS4.out.kp HKn.out (by omega))
      have HKAn := hid (HKA4.out.trans HKn.out)
      rw [hst] at HBn
      have HWt := hid hWt
      have HWn := hid hWn
      clear hWt hWn
      go_wp2_with fail
      rw [HWt.out, HWn.out]
      refine (dround N e d z E hE _ b t1.pos ts.tail (by repeat (with_reducible (first | exact HRn.out | apply Dr.drew))) hlt1).mono ?_
      intro en w5 HD
      rcases hx5 : Sy.roundB z E t1.pos ts.tail with f5 | ⟨y5, ts5⟩
      ·obtain ⟨rfl, HK5⟩ := HD.no hx5
       have HKE := hid ((show Kp b w _ by repeat (with_reducible (first | exact HKAn.out | apply Kp.drew))).trans HK5.out)
       go_wp2_with fail
       exact ⟨rfl, DRes.err (by simp [Sy.atomB, Sy.iteB_takes, Sy.bnd, HL1.out, HK2.out, HK1.out, hv0, hv1, hv2, hv3, hx5]) HKE.out⟩
      have H5 := hid hx5
      obtain ⟨a5, l5, c5, rfl, HKd5, HR5, HK5⟩ := HD.yes hx5
      clear hx5 HD
      have ht5 := HK5.out.size
      have HRS5 := hid ((show Blk _ w.heap.size [_, _, _, _, _] by repeat (with_reducible (first | exact HRSn.out | apply Blk.drew))).kp HK5.out (by omega))
      have HKA5 := hid ((show Kp b w _ by repeat (with_reducible (first | exact HKAn.out | apply Kp.drew))).trans HK5.out)
      obtain ⟨⟨u2_0, u2_1, u2_2, u2_3, u2_4⟩, u2_5, u2_6, u2_7, u2_8, u2_9⟩ := blk5 HRS5.out
      go_wp2_with fail
      refine bodyPost_ret (v := .agg #[.int .i64 y5.kind, .int .i64 y5.pos, .string ⟨y5.name.toArray⟩, .int .i64 y5.num, .slice a5 l5 c5]) (by simp [results, Tryz.results166, go_sem, u2_0, u2_1, u2_2, u2_3, u2_4]) rfl ?_
      exact dres_fin (lo := W0.heap.size) y5 ts5 (HKd5.out.weak (fun g hg _ => Nat.le_trans (by omega) hg)) HR5.out HKA5.out (by simp [Sy.atomB, Sy.iteB_takes, Sy.bnd, HL1.out, HK2.out, HK1.out, hv0, hv1, hv2, hv3, H5.out]) (by omega) (by omega) (by omega) _ _ _ _ rfl rfl rfl rfl _ _ _ _ _
     | false =>
      cases hv4 : (t1.text == Sy.s_ls) with
      | true =>
       have hu0 : (t1.text == [126]) = false := hv0
       have hu1 : (t1.text == [116, 114, 117, 101]) = false := hv1
       have hu2 : (t1.text == [102, 97, 108, 115, 101]) = false := hv2
       have hu3 : (t1.text == [40]) = false := hv3
       have hu4 : (t1.text == [91]) = true := hv4
       obtain ⟨Wt, hWt, HBt, HRt, HKt, hst, hut⟩ := jtok_new t1 HR4.out (Kp.refl b w4) 41
       obtain ⟨Wn, hWn, HBn, HRn, HKn, hsn, hun⟩ := jblk_new (.int .i64 0) (.int .i64 t1.pos) (.string ⟨#[]⟩) (.int .i64 0) (.slice none 0 0) HRt.out HKt.out 24
       have HRSn := hid (HRS4.out.kp HKn.out (by omega))
       have HKAn := hid (HKA4.out.trans HKn.out)
       rw [hst] at HBn
       have HWt := hid hWt
       have HWn := hid hWn
       clear hWt hWn
       go_wp2_with fail
       rw [HWt.out, HWn.out]
       refine (dsquare N e d hN z E hE _ b t1.pos ts.tail (by repeat (with_reducible (first | exact HRn.out | apply Dr.drew))) hlt1).mono ?_
       intro en w5 HD
       rcases hx5 : Sy.squareB z N E t1.pos ts.tail with f5 | ⟨y5, ts5⟩
       ·obtain ⟨rfl, HK5⟩ := HD.no hx5
        have HKE := hid ((show Kp b w _ by repeat (with_reducible (first | exact HKAn.out | apply Kp.drew))).trans HK5.out)
        go_wp2_with fail
        exact ⟨rfl, DRes.err (by simp [Sy.atomB, Sy.iteB_takes, Sy.bnd, HL1.out, HK2.out, HK1.out, hv0, hv1, hv2, hv3, hv4, hx5]) HKE.out⟩
       have H5 := hid hx5
       obtain ⟨a5, l5, c5, rfl, HKd5, HR5, HK5⟩ := HD.yes hx5
       clear hx5 HD
       have ht5 := HK5.out.size
       have HRS5 := hid ((show Blk _ w.heap.size [_, _, _, _, _] by repeat (with_reducible (first | exact HRSn.out | apply Blk.drew))).kp HK5.out (by omega))
       have HKA5 := hid ((show Kp b w _ by repeat (with_reducible (first | exact HKAn.out | apply Kp.drew))).trans HK5.out)
       obtain ⟨⟨u2_0, u2_1, u2_2, u2_3, u2_4⟩, u2_5, u2_6, u2_7, u2_8, u2_9⟩ := blk5 HRS5.out
       go_wp2_with fail
       refine bodyPost_ret (v := .agg #[.int .i64 y5.kind, .int .i64 y5.pos, .string ⟨y5.name.toArray⟩, .int .i64 y5.num, .slice a5 l5 c5]) (by simp [results, Tryz.results166, go_sem, u2_0, u2_1, u2_2, u2_3, u2_4]) rfl ?_
       exact dres_fin (lo := W0.heap.size) y5 ts5 (HKd5.out.weak (fun g hg _ => Nat.le_trans (by omega) hg)) HR5.out HKA5.out (by simp [Sy.atomB, Sy.iteB_takes, Sy.bnd, HL1.out, HK2.out, HK1.out, hv0, hv1, hv2, hv3, hv4, H5.out]) (by omega) (by omega) (by omega) _ _ _ _ rfl rfl rfl rfl _ _ _ _ _
      | false =>
       exfalso
       have h := HBB.out
       simp [Sy.beginsB, HK2.out, HK1.out, hv0, hv1, hv2, hv3, hv4] at h
end Go.Proofs.YtoajnlhegallpaaGreatDoor
