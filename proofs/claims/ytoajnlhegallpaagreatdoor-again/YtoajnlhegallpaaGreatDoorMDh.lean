/-
  What the program's rules do: application.
-/
import Derived.Test.YtoajnlhegallpaaGreatDoorMDg
set_option linter.unusedVariables false
set_option linter.unusedSimpArgs false
set_option maxRecDepth 100000
set_option maxHeartbeats 4000000
namespace Go.Proofs.YtoajnlhegallpaaGreatDoor
open Go.RowKit

theorem dres_finl {w W : World} {b R lo e d : Nat} {z : Sy.Env} {x : Sy.R Sy.Tr} (T : Sy.Tr) (ts : List Lx.Tk) (l : List (Sy.Tr × Value)) (h0 : l ≠ []) (hk : ∀ p ∈ l, Kids W (fun g => lo ≤ g) p.2 p.1.kids) (hT : T.kids = l.map (·.1))
  (hr : Dr W b z ts e d) (hkp : Kp b w W) (hx : x = .ok (T, ts)) (hR : R < lo) (hlo : lo ≤ W.heap.size) (hRw : w.heap.size ≤ R) (hb : b < R) (cs : Array Value) (hcs : cs = (rowCells l).toArray) (n : Nat) (hn : n = l.length) (ty : TypeId)
  (kk pp nn : Int) (xx : ByteArray) (e1 : kk = T.kind) (e2 : pp = T.pos) (e3 : xx = ⟨T.name.toArray⟩) (e4 : nn = T.num) (v0 v1 v2 v3 v4 : Value) (H : Nat) (hH : H = W.heap.size) :
  DRes w b z x e d (.returned (.agg #[.int .i64 kk, .int .i64 pp, .string xx, .int .i64 nn, .slice (some ⟨H, 0, none⟩) n n])) ((sto5 W R v0 v1 v2 v3 v4).alloc (.cells cs ty)) := by
 subst hH
 have hs : (sto5 W R v0 v1 v2 v3 v4).heap.size = W.heap.size := by simp [sto5]
 have hkk := kids_newH (w1 := sto5 W R v0 v1 v2 v3 v4) (F := fun g => lo ≤ g) (ty := ty) W.heap.size hs l h0 hlo (fun p hp => (hk p hp).carry (fun g hg _ => sto5_heap _ _ _ _ _ _ _ _ (by omega)) (fun g hg _ => hg)) cs hcs n hn (Below.refl _ _)
 exact DRes.ok_ hx (lo := lo) (by rw [hT]; exact hkk) (by omega) ((hr.sto5 hb _ _ _ _ _).alloc _) ((sto5_kp hkp hRw _ _ _ _ _).alloc _) _ _ _ _ e1 e2 e3 e4

theorem lt_atom {z : Sy.Env} {N : Nat} {E : List Lx.Tk → Sy.R Sy.Tr} {ts us : List Lx.Tk} {t : Lx.Tk} {a : Sy.Tr} {vs : List Lx.Tk} (hE : ∀ {n : Nat} (ts : List Lx.Tk), ts.length ≤ n → LeB n (E ts)) (hl : Sy.lookB z ts = .ok (t, us)) (hb : Sy.beginsB t = true) (h : Sy.atomB z N E ts = .ok (a, vs)) : vs.length < ts.length := by
 have hne : ts = t :: ts.tail := by
  refine look_some hl ?_
  by_cases hk : t.kind = 0
  ·refine .inl ?_
   intro hx
   simp [Sy.beginsB, hk, hx, Sy.s_tilde, Sy.w_true, Sy.w_false, Sy.s_lp, Sy.s_ls] at hb
  ·exact .inr hk
 have hlen : ts.tail.length < ts.length := by rw [hne]; simp
 have hle : LeB ts.tail.length (Sy.atomB z N E ts) := by
  unfold Sy.atomB
  rw [hl]
  show LeB _ (if t.kind == 2 then _ else _)
  repeat' first
   | with_reducible exact LeB.err _
   | with_reducible refine LeB.ite (fun _ => ?_) (fun _ => ?_)
   | with_reducible refine LeB.bnd ?_ (fun _ _ _ => ?_)
   | with_reducible refine le_kind ?_
   | with_reducible refine le_round (fun ts h => hE ts h) _ _ ?_
   | with_reducible refine le_square (fun ts h => hE ts h) _ _ ?_
   | with_reducible assumption
   | exact Nat.le_refl _
   | with_reducible refine LeB.okk ?_
 have := hle _ _ h
 omega

theorem dapplication (N e d : Nat) (z : Sy.Env) (E : List Lx.Tk → Sy.R Sy.Tr) (hE : EOK N e d z E) (hC : ROK 166 N e d z (Sy.atomB z N E)) : ROK 160 N e d z (Sy.appB z N E) := by
 intro w b ts h hn
 have H := hid h
 have hbR : b < w.heap.size := h.lt
 clear h
 go_enter Tryz.func160, Tryz.ntmps160
 go_wp2_with fail
 obtain ⟨W0, hW0, HI⟩ := jn1 H.out 24
 rw [hW0]
 clear hW0
 have hz0 := HI.out.size
 rcases hl1 : Sy.lookB z ts with f1 | ⟨t1, us1⟩
 ·refine (dlook _ b z ts e d (by repeat (with_reducible (first | exact HI.out.rd | apply Dr.drew)))).mono ?_
  intro en w1 HD
  obtain ⟨rfl, HK1⟩ := HD.no (f := f1) (by simp [Sy.bnd, hl1])
  have HKE := hid ((show Kp b w _ by repeat (with_reducible (first | exact HI.out.kp | apply Kp.drew))).trans HK1.out)
  go_wp2_with fail
  exact ⟨rfl, DRes.err (by simp [Sy.appB, Sy.iteB_takes, Sy.bnd, hl1]) HKE.out⟩
 have HL1 : Hid (Sy.lookB z ts = .ok (t1, ts)) := by obtain ⟨h1, _⟩ := look_ok hl1; rw [Hid, hl1, h1]
 clear hl1
 obtain ⟨hf1_0, hf1_1, hf1_2, hf1_3⟩ := fld_tk (.int .i64 t1.kind) (.int .i64 t1.pos) (.string ⟨t1.text.toArray⟩) (.int .i64 t1.num)
 refine (dlook _ b z ts e d (by repeat (with_reducible (first | exact HI.out.rd | apply Dr.drew)))).mono ?_
 intro en w2 HD
 obtain ⟨rfl, HR2, HK2⟩ := HD.yes HL1.out
 dsimp only [tkV]
 clear HD
 have ht2 := HK2.out.size
 have HRS2 := hid ((show Blk _ w.heap.size [_, _, _, _, _] by repeat (with_reducible (first | exact HI.out.one | apply Blk.drew))).kp HK2.out (by omega))
 have HKA2 := hid ((show Kp b w _ by repeat (with_reducible (first | exact HI.out.kp | apply Kp.drew))).trans HK2.out)
 go_wp2_with fail
 cases hv0 : (t1.text == Sy.w_do) with
 | true =>
  refine (dtakes _ b z ts e d Sy.w_do (by decide) (by repeat (with_reducible (first | exact HR2.out | apply Dr.drew)))).mono ?_
  intro en w3 HD
  obtain ⟨rfl, HR3, HK3⟩ := HD.yes (a := true) (ts := ts.tail) (by simp [Sy.takesB, Sy.bnd, HL1.out, hv0])
  clear HD
  have ht3 := HK3.out.size
  have HRS3 := hid ((show Blk _ w.heap.size [_, _, _, _, _] by repeat (with_reducible (first | exact HRS2.out | apply Blk.drew))).kp HK3.out (by omega))
  have HKA3 := hid ((show Kp b w _ by repeat (with_reducible (first | exact HKA2.out | apply Kp.drew))).trans HK3.out)
  have hnt3 : ts.tail.length < N := by simp only [List.length_tail]; omega
  go_wp2_with fail
  refine (dname _ b z ts.tail e d (by repeat (with_reducible (first | exact HR3.out | apply Dr.drew)))).mono ?_
  intro en w4 HD
  rcases hx4 : Sy.kindB z 2 ts.tail with f4 | ⟨t4, ts4⟩
  ·obtain ⟨rfl, HK4⟩ := HD.no hx4
   have HKE := hid ((show Kp b w _ by repeat (with_reducible (first | exact HKA3.out | apply Kp.drew))).trans HK4.out)
   go_wp2_with fail
   exact ⟨rfl, DRes.err (by simp [Sy.appB, Sy.iteB_takes, Sy.bnd, HL1.out, hv0, hx4]) HKE.out⟩
  have H4 := hid hx4
  have hn4 : ts4.length < N := Nat.lt_of_le_of_lt (le_kind (Nat.le_refl _) _ _ hx4) hnt3
  obtain ⟨rfl, HR4, HK4⟩ := HD.yes hx4
  dsimp only [tkV]
  clear hx4 HD
  have ht4 := HK4.out.size
  have HRS4 := hid ((show Blk _ w.heap.size [_, _, _, _, _] by repeat (with_reducible (first | exact HRS3.out | apply Blk.drew))).kp HK4.out (by omega))
  have HKA4 := hid ((show Kp b w _ by repeat (with_reducible (first | exact HKA3.out | apply Kp.drew))).trans HK4.out)
  obtain ⟨hf4_0, hf4_1, hf4_2, hf4_3⟩ := fld_tk (.int .i64 t4.kind) (.int .i64 t4.pos) (.string ⟨t4.text.toArray⟩) (.int .i64 t4.num)
  go_wp2_with fail
  refine (hC _ b ts4 (by repeat (with_reducible (first | exact HR4.out | apply Dr.drew))) hn4).mono ?_
  intro en w5 HD
  rcases hx5 : Sy.atomB z N E ts4 with f5 | ⟨y5, ts5⟩
  ·obtain ⟨rfl, HK5⟩ := HD.no hx5
   have HKE := hid ((show Kp b w _ by repeat (with_reducible (first | exact HKA4.out | apply Kp.drew))).trans HK5.out)
   go_wp2_with fail
   exact ⟨rfl, DRes.err (by simp [Sy.appB, Sy.iteB_takes, Sy.bnd, HL1.out, hv0, H4.out, hx5]) HKE.out⟩
  have H5 := hid hx5
  have hn5 : ts5.length < N := Nat.lt_of_le_of_lt (le_atom (fun ts h => hE.le _ ts h) _ (Nat.le_refl _) _ _ hx5) hn4
  obtain ⟨a5, l5, c5, rfl, HKd5, HR5, HK5⟩ := HD.yes hx5
  clear hx5 HD
  have ht5 := HK5.out.size
  have HRS5 := hid ((show Blk _ w.heap.size [_, _, _, _, _] by repeat (with_reducible (first | exact HRS4.out | apply Blk.drew))).kp HK5.out (by omega))
  have HKA5 := hid ((show Kp b w _ by repeat (with_reducible (first | exact HKA4.out | apply Kp.drew))).trans HK5.out)
  obtain ⟨⟨u1_0, u1_1, u1_2, u1_3, u1_4⟩, u1_5, u1_6, u1_7, u1_8, u1_9⟩ := blk5 HRS5.out
  have hlw : w.heap.size < w5.heap.size := Blk.lt HRS5.out
  go_wp2_with fail
  refine bodyPost_ret (v := .agg #[.int .i64 19, .int .i64 t1.pos, .string ⟨t4.text.toArray⟩, .int .i64 0, .slice (some ⟨w5.heap.size, 0, none⟩) 1 1]) (by simp [results, Tryz.results160, go_sem, u1_0, u1_1, u1_2, u1_3, u1_4, hlw]) rfl ?_
  exact dres_finl (lo := W0.heap.size) (Sy.nm 19 t1.pos t4.text [y5]) ts5 [(y5, .slice a5 l5 c5)] (by simp) (by intro p hp; simp only [List.mem_cons, List.not_mem_nil, or_false] at hp; rcases hp with rfl <;> first | exact (HKd5.out.weak (fun g hg _ => Nat.le_trans (by omega) hg))) rfl HR5.out HKA5.out (by simp [Sy.appB, Sy.iteB_takes, Sy.bnd, HL1.out, hv0, H4.out, H5.out]) (by omega) (by omega) (by omega) (by omega) _ rfl 1 rfl _ _ _ _ _ rfl rfl rfl rfl _ _ _ _ _ _ rfl
 | false =>
  refine (dtakes _ b z ts e d Sy.w_do (by decide) (by repeat (with_reducible (first | exact HR2.out | apply Dr.drew)))).mono ?_
  intro en w3 HD
  obtain ⟨rfl, HR3, HK3⟩ := HD.yes (a := false) (ts := ts) (by simp [Sy.takesB, Sy.bnd, HL1.out, hv0])
  clear HD
  have ht3 := HK3.out.size
  have HRS3 := hid ((show Blk _ w.heap.size [_, _, _, _, _] by repeat (with_reducible (first | exact HRS2.out | apply Blk.drew))).kp HK3.out (by omega))
  have HKA3 := hid ((show Kp b w _ by repeat (with_reducible (first | exact HKA2.out | apply Kp.drew))).trans HK3.out)
  go_wp2_with fail
  cases hv1 : (t1.text == Sy.w_fst) with
  | true =>
   refine (dtakes _ b z ts e d Sy.w_fst (by decide) (by repeat (with_reducible (first | exact HR3.out | apply Dr.drew)))).mono ?_
   intro en w4 HD
   obtain ⟨rfl, HR4, HK4⟩ := HD.yes (a := true) (ts := ts.tail) (by simp [Sy.takesB, Sy.bnd, HL1.out, hv1])
   clear HD
   have ht4 := HK4.out.size
   have HRS4 := hid ((show Blk _ w.heap.size [_, _, _, _, _] by repeat (with_reducible (first | exact HRS3.out | apply Blk.drew))).kp HK4.out (by omega))
   have HKA4 := hid ((show Kp b w _ by repeat (with_reducible (first | exact HKA3.out | apply Kp.drew))).trans HK4.out)
   have hnt4 : ts.tail.length < N := by simp only [List.length_tail]; omega
   go_wp2_with fail
   refine (hC _ b ts.tail (by repeat (with_reducible (first | exact HR4.out | apply Dr.drew))) hnt4).mono ?_
   intro en w5 HD
   rcases hx5 : Sy.atomB z N E ts.tail with f5 | ⟨y5, ts5⟩
   ·obtain ⟨rfl, HK5⟩ := HD.no hx5
    have HKE := hid ((show Kp b w _ by repeat (with_reducible (first | exact HKA4.out | apply Kp.drew))).trans HK5.out)
    go_wp2_with fail
    exact ⟨rfl, DRes.err (by simp [Sy.appB, Sy.iteB_takes, Sy.bnd, HL1.out, hv0, hv1, hx5]) HKE.out⟩
   have H5 := hid hx5
   have hn5 : ts5.length < N := Nat.lt_of_le_of_lt (le_atom (fun ts h => hE.le _ ts h) _ (Nat.le_refl _) _ _ hx5) hnt4
   obtain ⟨a5, l5, c5, rfl, HKd5, HR5, HK5⟩ := HD.yes hx5
   clear hx5 HD
   have ht5 := HK5.out.size
   have HRS5 := hid ((show Blk _ w.heap.size [_, _, _, _, _] by repeat (with_reducible (first | exact HRS4.out | apply Blk.drew))).kp HK5.out (by omega))
   have HKA5 := hid ((show Kp b w _ by repeat (with_reducible (first | exact HKA4.out | apply Kp.drew))).trans HK5.out)
   obtain ⟨⟨u1_0, u1_1, u1_2, u1_3, u1_4⟩, u1_5, u1_6, u1_7, u1_8, u1_9⟩ := blk5 HRS5.out
   have hlw : w.heap.size < w5.heap.size := Blk.lt HRS5.out
   go_wp2_with fail
   refine bodyPost_ret (v := .agg #[.int .i64 13, .int .i64 t1.pos, .string ⟨([] : List UInt8).toArray⟩, .int .i64 0, .slice (some ⟨w5.heap.size, 0, none⟩) 1 1]) (by simp [results, Tryz.results160, go_sem, u1_0, u1_1, u1_2, u1_3, u1_4, hlw]) rfl ?_
   exact dres_finl (lo := W0.heap.size) (Sy.nd 13 t1.pos [y5]) ts5 [(y5, .slice a5 l5 c5)] (by simp) (by intro p hp; simp only [List.mem_cons, List.not_mem_nil, or_false] at hp; rcases hp with rfl <;> first | exact (HKd5.out.weak (fun g hg _ => Nat.le_trans (by omega) hg))) rfl HR5.out HKA5.out (by simp [Sy.appB, Sy.iteB_takes, Sy.bnd, HL1.out, hv0, hv1, H5.out]) (by omega) (by omega) (by omega) (by omega) _ rfl 1 rfl _ _ _ _ _ rfl rfl rfl rfl _ _ _ _ _ _ rfl
  | false =>
   refine (dtakes _ b z ts e d Sy.w_fst (by decide) (by repeat (with_reducible (first | exact HR3.out | apply Dr.drew)))).mono ?_
   intro en w4 HD
   obtain ⟨rfl, HR4, HK4⟩ := HD.yes (a := false) (ts := ts) (by simp [Sy.takesB, Sy.bnd, HL1.out, hv1])
   clear HD
   have ht4 := HK4.out.size
   have HRS4 := hid ((show Blk _ w.heap.size [_, _, _, _, _] by repeat (with_reducible (first | exact HRS3.out | apply Blk.drew))).kp HK4.out (by omega))
   have HKA4 := hid ((show Kp b w _ by repeat (with_reducible (first | exact HKA3.out | apply Kp.drew))).trans HK4.out)
   go_wp2_with fail
   cases hv2 : (t1.text == Sy.w_snd) with
   | true =>
    refine (dtakes _ b z ts e d Sy.w_snd (by decide) (by repeat (with_reducible (first | exact HR4.out | apply Dr.drew)))).mono ?_
    intro en w5 HD
    obtain ⟨rfl, HR5, HK5⟩ := HD.yes (a := true) (ts := ts.tail) (by simp [Sy.takesB, Sy.bnd, HL1.out, hv2])
    clear HD
    have ht5 := HK5.out.size
    have HRS5 := hid ((show Blk _ w.heap.size [_, _, _, _, _] by repeat (with_reducible (first | exact HRS4.out | apply Blk.drew))).kp HK5.out (by omega))
    have HKA5 := hid ((show Kp b w _ by repeat (with_reducible (first | exact HKA4.out | apply Kp.drew))).trans HK5.out)
    have hnt5 : ts.tail.length < N := by simp only [List.length_tail]; omega
    go_wp2_with fail
    refine (hC _ b ts.tail (by repeat (with_reducible (first | exact HR5.out | apply Dr.drew))) hnt5).mono ?_
    intro en w6 HD
    rcases hx6 : Sy.atomB z N E ts.tail with f6 | ⟨y6, ts6⟩
    ·obtain ⟨rfl, HK6⟩ := HD.no hx6
     have HKE := hid ((show Kp b w _ by repeat (with_reducible (first | exact HKA5.out | apply Kp.drew))).trans HK6.out)
     go_wp2_with fail
     exact ⟨rfl, DRes.err (by simp [Sy.appB, Sy.iteB_takes, Sy.bnd, HL1.out, hv0, hv1, hv2, hx6]) HKE.out⟩
    have H6 := hid hx6
    have hn6 : ts6.length < N := Nat.lt_of_le_of_lt (le_atom (fun ts h => hE.le _ ts h) _ (Nat.le_refl _) _ _ hx6) hnt5
    obtain ⟨a6, l6, c6, rfl, HKd6, HR6, HK6⟩ := HD.yes hx6
    clear hx6 HD
    have ht6 := HK6.out.size
    have HRS6 := hid ((show Blk _ w.heap.size [_, _, _, _, _] by repeat (with_reducible (first | exact HRS5.out | apply Blk.drew))).kp HK6.out (by omega))
    have HKA6 := hid ((show Kp b w _ by repeat (with_reducible (first | exact HKA5.out | apply Kp.drew))).trans HK6.out)
    obtain ⟨⟨u1_0, u1_1, u1_2, u1_3, u1_4⟩, u1_5, u1_6, u1_7, u1_8, u1_9⟩ := blk5 HRS6.out
    have hlw : w.heap.size < w6.heap.size := Blk.lt HRS6.out
    go_wp2_with fail
    refine bodyPost_ret (v := .agg #[.int .i64 14, .int .i64 t1.pos, .string ⟨([] : List UInt8).toArray⟩, .int .i64 0, .slice (some ⟨w6.heap.size, 0, none⟩) 1 1]) (by simp [results, Tryz.results160, go_sem, u1_0, u1_1, u1_2, u1_3, u1_4, hlw]) rfl ?_
    exact dres_finl (lo := W0.heap.size) (Sy.nd 14 t1.pos [y6]) ts6 [(y6, .slice a6 l6 c6)] (by simp) (by intro p hp; simp only [List.mem_cons, List.not_mem_nil, or_false] at hp; rcases hp with rfl <;> first | exact (HKd6.out.weak (fun g hg _ => Nat.le_trans (by omega) hg))) rfl HR6.out HKA6.out (by simp [Sy.appB, Sy.iteB_takes, Sy.bnd, HL1.out, hv0, hv1, hv2, H6.out]) (by omega) (by omega) (by omega) (by omega) _ rfl 1 rfl _ _ _ _ _ rfl rfl rfl rfl _ _ _ _ _ _ rfl
   | false =>
    refine (dtakes _ b z ts e d Sy.w_snd (by decide) (by repeat (with_reducible (first | exact HR4.out | apply Dr.drew)))).mono ?_
    intro en w5 HD
    obtain ⟨rfl, HR5, HK5⟩ := HD.yes (a := false) (ts := ts) (by simp [Sy.takesB, Sy.bnd, HL1.out, hv2])
    clear HD
    have ht5 := HK5.out.size
    have HRS5 := hid ((show Blk _ w.heap.size [_, _, _, _, _] by repeat (with_reducible (first | exact HRS4.out | apply Blk.drew))).kp HK5.out (by omega))
    have HKA5 := hid ((show Kp b w _ by repeat (with_reducible (first | exact HKA4.out | apply Kp.drew))).trans HK5.out)
    go_wp2_with fail
    refine (hC _ b ts (by repeat (with_reducible (first | exact HR5.out | apply Dr.drew))) hn).mono ?_
    intro en w6 HD
    rcases hx6 : Sy.atomB z N E ts with f6 | ⟨y6, ts6⟩
    ·obtain ⟨rfl, HK6⟩ := HD.no hx6
     have HKE := hid ((show Kp b w _ by repeat (with_reducible (first | exact HKA5.out | apply Kp.drew))).trans HK6.out)
     go_wp2_with fail
     exact ⟨rfl, DRes.err (by simp [Sy.appB, Sy.iteB_takes, Sy.bnd, HL1.out, hv0, hv1, hv2, hx6]) HKE.out⟩
    have H6 := hid hx6
    have hn6 : ts6.length < N := Nat.lt_of_le_of_lt (le_atom (fun ts h => hE.le _ ts h) _ (Nat.le_refl _) _ _ hx6) hn
    obtain ⟨a6, l6, c6, rfl, HKd6, HR6, HK6⟩ := HD.yes hx6
    clear hx6 HD
    obtain ⟨W6, hW6, HV6, HRd6, HKp6, hs6, ht6⟩ := jvar_new HKd6.out HR6.out HK6.out 24
    have HRS6 := hid ((show Blk _ w.heap.size [_, _, _, _, _] by repeat (with_reducible (first | exact HRS5.out | apply Blk.drew))).kp HKp6.out (by omega))
    have HKA6 := hid ((show Kp b w _ by repeat (with_reducible (first | exact HKA5.out | apply Kp.drew))).trans HKp6.out)
    have hne6 : ¬ w6.heap.size = w.heap.size := by omega
    have hno6 : ¬ w.heap.size = w6.heap.size := by omega
    go_wp2_with fail
    try rw [hW6]
    clear hW6
    have HLW : Hid (Lw w b w6.heap.size w.heap.size W0.heap.size z y6 ts6 e d W6) := ⟨⟨_, _, _, Vr.weak HV6.out (by omega)⟩, ⟨_, _, _, _, _, HRS6.out⟩, HRd6.out, HKA6.out⟩
    go_loopg [] N (fun n wr => ∃ (T : Sy.Tr) (tr : List Lx.Tk), Hid (Lw w b w6.heap.size w.heap.size W0.heap.size z T tr e d wr) ∧ Hid (Sy.appsB z N E n T tr = Sy.appB z N E ts) ∧ Hid (tr.length < n) ∧ tr.length < N)
    case atStart => exact ⟨_, _, HLW, hid (by simp [Sy.appB, Sy.iteB_takes, Sy.bnd, HL1.out, hv0, hv1, hv2, H6.out]), hn6, hn6⟩
    case round =>
     obtain ⟨T, tr, HLR, HE, HM, hnr⟩ := hrel
     obtain ⟨m, hm⟩ : ∃ m, gk = m + 1 := ⟨gk - 1, by have := HM.out; omega⟩
     subst hm
     obtain ⟨aA, lA, cA, hVA⟩ := HLR.out.var
     obtain ⟨r0, r1, r2, r3, r4, hRSA⟩ := HLR.out.res
     have HVA := hid hVA
     have HRSA := hid hRSA
     have hwr : w6.heap.size < wr.heap.size := hVA.lt
     clear hVA hRSA
     go_wp2_with fail
     rcases hl17 : Sy.lookB z tr with f17 | ⟨t17, us17⟩
     ·refine (dlook _ b z tr e d (by repeat (with_reducible (first | exact HLR.out.rd | apply Dr.drew)))).mono ?_
      intro en w17 HD
      obtain ⟨rfl, HK17⟩ := HD.no (f := f17) (by simp [Sy.bnd, hl17])
      have HKE := hid ((show Kp b w _ by repeat (with_reducible (first | exact HLR.out.kp | apply Kp.drew))).trans HK17.out)
      go_wp2_with fail
      exact ⟨rfl, DRes.err (by rw [← HE.out]; simp [Sy.appsB, Sy.iteB_takes, Sy.bnd, hl17]) HKE.out⟩
     have HL17 : Hid (Sy.lookB z tr = .ok (t17, tr)) := by obtain ⟨h1, _⟩ := look_ok hl17; rw [Hid, hl17, h1]
     clear hl17
     refine (dlook _ b z tr e d (by repeat (with_reducible (first | exact HLR.out.rd | apply Dr.drew)))).mono ?_
     intro en w18 HD
     obtain ⟨rfl, HR18, HK18⟩ := HD.yes HL17.out
     dsimp only [tkV]
     clear HD
     have ht18 := HK18.out.size
     have HVA_18 := hid ((show Vr _ w6.heap.size W0.heap.size T aA lA cA by repeat (with_reducible (first | exact HVA.out | apply Vr.drew))).kp HK18.out (by omega) (by omega))
     have HRS18 := hid ((show Blk _ w.heap.size [_, _, _, _, _] by repeat (with_reducible (first | exact HRSA.out | apply Blk.drew))).kp HK18.out (by omega))
     have HKA18 := hid ((show Kp b w _ by repeat (with_reducible (first | exact HLR.out.kp | apply Kp.drew))).trans HK18.out)
     go_wp2_with fail
     refine (dbegins _ t17).mono ?_
     rintro en w19 ⟨rfl, HB19⟩
     have ht19 := HB19.out.size
     have HVA_19 := hid ((show Vr _ w6.heap.size W0.heap.size T aA lA cA by repeat (with_reducible (first | exact HVA_18.out | apply Vr.drew))).past HB19.out)
     have HRS19 := hid ((show Blk _ w.heap.size [_, _, _, _, _] by repeat (with_reducible (first | exact HRS18.out | apply Blk.drew))).past HB19.out)
     have HKA19 := hid ((show Kp b w _ by repeat (with_reducible (first | exact HKA18.out | apply Kp.drew))).below HB19.out)
     have HR19 := hid ((show Dr _ b z tr e d by repeat (with_reducible (first | exact HR18.out | apply Dr.drew))).below HB19.out)
     cases hb : Sy.beginsB t17 with
     | false =>
      obtain ⟨⟨q1_0, q1_1, q1_2, q1_3, q1_4⟩, q1_5, q1_6, q1_7, q1_8, q1_9⟩ := blk5 HVA_19.out.cells
      obtain ⟨⟨u2_0, u2_1, u2_2, u2_3, u2_4⟩, u2_5, u2_6, u2_7, u2_8, u2_9⟩ := blk5 HRS19.out
      go_wp2_with fail
      refine bodyPost_ret (v := .agg #[.int .i64 T.kind, .int .i64 T.pos, .string ⟨T.name.toArray⟩, .int .i64 T.num, .slice aA lA cA]) (by simp [results, Tryz.results160, go_sem, u2_0, u2_1, u2_2, u2_3, u2_4]) rfl ?_
      exact dres_fin (lo := W0.heap.size) T tr (HVA_19.out.kids.free (by omega)) HR19.out HKA19.out (by rw [← HE.out]; simp [Sy.appsB, Sy.iteB_takes, Sy.bnd, HL17.out, hb]) (by omega) (by omega) (by omega) _ _ _ _ rfl rfl rfl rfl _ _ _ _ _
     | true =>
      obtain ⟨⟨q1_0, q1_1, q1_2, q1_3, q1_4⟩, q1_5, q1_6, q1_7, q1_8, q1_9⟩ := blk5 HVA_19.out.cells
      obtain ⟨⟨u2_0, u2_1, u2_2, u2_3, u2_4⟩, u2_5, u2_6, u2_7, u2_8, u2_9⟩ := blk5 HRS19.out
      go_wp2_with fail
      rcases hx20 : Sy.atomB z N E tr with f20 | ⟨y20, ts20⟩
      ·skip
       refine wp_region_held_drew (S := (fun w' => w'.cell? ⟨w6.heap.size, 0, none⟩ = some (.int .i64 T.kind) ∧ w'.cell? ⟨w6.heap.size, 1, none⟩ = some (.int .i64 T.pos) ∧ w'.cell? ⟨w6.heap.size, 2, none⟩ = some (.string ⟨T.name.toArray⟩) ∧ w'.cell? ⟨w6.heap.size, 3, none⟩ = some (.int .i64 T.num) ∧ w'.cell? ⟨w6.heap.size, 4, none⟩ = some (.slice aA lA cA))) (by kernel_rfl) (by first | trivial | (dsimp only; go_keep)) (fun hHeld => ?_)
       refine wpAnyH_take (i := 0) (v := ?vv0_1) rfl (by kernel_rfl) (by kernel_rfl) (by kernel_rfl) (fun _ _ _ h => h) (Or.inl ⟨by rfl, ?yy0_1⟩) (by assumption) ?rr0_1
       case yy0_1 => (intro w hSw; (try dsimp only at hSw); go_simp; (try with_reducible rfl))
       try simp only [Act.put, List.setIfInBounds_toArray, List.set_cons_zero, List.set_cons_succ]
       refine wpAnyH_take (i := 1) (v := ?vv1_1) rfl (by kernel_rfl) (by kernel_rfl) (by kernel_rfl) (fun _ _ _ h => h) (Or.inl ⟨by rfl, ?yy1_1⟩) (by assumption) ?rr1_1
       case yy1_1 => (intro w hSw; (try dsimp only at hSw); go_simp; (try with_reducible rfl))
       try simp only [Act.put, List.setIfInBounds_toArray, List.set_cons_zero, List.set_cons_succ]
       refine wpAnyH_ready (rs := [2]) (by kernel_rfl) (by simp) (AllReadyH.cons rfl (fun K hK => ?_) AllReadyH.nil)
       go_simp
       refine (hC _ b tr (by repeat (with_reducible (first | exact HR19.out | apply Dr.drew))) hnr).mono ?_
       intro en w20 HD
       obtain ⟨rfl, HK20⟩ := HD.no hx20
       have HKE := hid ((show Kp b w _ by repeat (with_reducible (first | exact HKA19.out | apply Kp.drew))).trans HK20.out)
       exact ⟨rfl, DRes.err (by rw [← HE.out]; simp [Sy.appsB, Sy.iteB_takes, Sy.bnd, HL17.out, hb, hx20]) HKE.out⟩
      have H20 := hid hx20
      have hn20 : ts20.length < N := Nat.lt_of_le_of_lt (le_atom (fun ts h => hE.le _ ts h) _ (Nat.le_refl _) _ _ hx20) hnr
      have hm20 : ts20.length < m := by have h1 := lt_atom (fun ts h => hE.le _ ts h) HL17.out hb hx20; have h2 := HM.out; omega
      clear hx20
      go_region_with (first
       | (go_at_call 166; refine (hC _ b tr (by repeat (with_reducible (first | exact HR19.out | apply Dr.drew))) hnr).mono ?_; intro en w20 HD; obtain ⟨a20, l20, c20, rfl, HKd20, HR20, HK20⟩ := HD.yes H20.out; have ht20 := HK20.out.size; (try simp at ht20); have HVA_20 := hid ((show Vr _ w6.heap.size W0.heap.size T aA lA cA by repeat (with_reducible (first | exact HVA_19.out | apply Vr.drew))).kp HK20.out (by omega) (by omega)); obtain ⟨⟨q3_0, q3_1, q3_2, q3_3, q3_4⟩, q3_5, q3_6, q3_7, q3_8, q3_9⟩ := blk5 HVA_20.out.cells; have HRS20 := hid ((show Blk _ w.heap.size [_, _, _, _, _] by repeat (with_reducible (first | exact HRS19.out | apply Blk.drew))).kp HK20.out (by omega)); have HKA20 := hid ((show Kp b w _ by repeat (with_reducible (first | exact HKA19.out | apply Kp.drew))).trans HK20.out); obtain ⟨⟨u4_0, u4_1, u4_2, u4_3, u4_4⟩, u4_5, u4_6, u4_7, u4_8, u4_9⟩ := blk5 HRS20.out; have HY20 : Hid (Kids w20 (fun g => w19.heap.size ≤ g) (.slice a20 l20 c20) y20.kids) := HKd20.out.weak (fun g hg _ => by (try simp at hg); omega))
       | (go_at_call 108; have HA21 := hid (HVA_20.out.kids); have HC21 : Hid (Kids _ (Fr W0.heap.size w6.heap.size) (.slice a20 l20 c20) y20.kids) := HY20.out.weak (fun g hg _ => ⟨Nat.le_trans (by omega) hg, by omega⟩); refine (djoined _ (Fr W0.heap.size w6.heap.size) 8 T y20 [] aA a20 lA cA l20 c20 (fun g hg => by (try simp at hg); exact ⟨by omega, by omega⟩) (by repeat (with_reducible (first | exact HA21.out | apply Kids.drew))) (by repeat (with_reducible (first | exact HC21.out | apply Kids.drew)))).mono ?_; rintro en w21 ⟨g21, rfl, HN21, HB21⟩; have ht21 := HB21.out.size; (try simp at ht21); have HVA_21 := hid ((show Vr _ w6.heap.size W0.heap.size T aA lA cA by repeat (with_reducible (first | exact HVA_20.out | apply Vr.drew))).past HB21.out); obtain ⟨⟨q5_0, q5_1, q5_2, q5_3, q5_4⟩, q5_5, q5_6, q5_7, q5_8, q5_9⟩ := blk5 HVA_21.out.cells; have HRS21 := hid ((show Blk _ w.heap.size [_, _, _, _, _] by repeat (with_reducible (first | exact HRS20.out | apply Blk.drew))).past HB21.out); have HKA21 := hid ((show Kp b w _ by repeat (with_reducible (first | exact HKA20.out | apply Kp.drew))).below HB21.out); obtain ⟨⟨u6_0, u6_1, u6_2, u6_3, u6_4⟩, u6_5, u6_6, u6_7, u6_8, u6_9⟩ := blk5 HRS21.out; have HR21 := hid ((show Dr _ b z ts20 e d by repeat (with_reducible (first | exact HR20.out | apply Dr.drew))).below HB21.out)))
      all_goals
       have HAC := hid HVA_21.out.cells
       obtain ⟨V, hV, HLV⟩ := lw_put (w := w) (lo := W0.heap.size) HAC.out HRS21.out (by omega) (by omega) (by omega) HR21.out (Sy.nd 8 T.pos [T, y20]) (a := (some ⟨g21, 0, none⟩)) (l := 2) (c := 2) HN21.out HKA21.out 8 T.pos 0 ⟨([] : List UInt8).toArray⟩ rfl rfl rfl rfl
       have HVV := hid hV
       clear hV
       go_wp2_with fail
       rw [HVV.out]
       go_roundg m
       case measure => omega
       case rel => exact ⟨_, _, HLV, hid (by rw [← HE.out]; simp [Sy.appsB, Sy.iteB_takes, Sy.bnd, HL17.out, hb, H20.out]), hm20, hn20⟩
end Go.Proofs.YtoajnlhegallpaaGreatDoor
