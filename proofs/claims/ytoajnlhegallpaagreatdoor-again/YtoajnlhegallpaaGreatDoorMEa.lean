/-
  What the program's rules do: typ.
-/
import Derived.Test.YtoajnlhegallpaaGreatDoorMDy
import Derived.Test.YtoajnlhegallpaaGreatDoorMRx
import Derived.Laws.OwnMore
set_option linter.unusedVariables false
set_option linter.unusedSimpArgs false
set_option maxRecDepth 100000
set_option maxHeartbeats 4000000
namespace Go.Proofs.YtoajnlhegallpaaGreatDoor
open Go.RowKit

theorem step_append_none {P : Program} {w : World} {ops : Array Oper} {o : Oper} {a : Act} {K : Act → World → Prop} {Q : Exit → Act → World → Prop} {E : Prop} (hgd : o.guard = none) (s x : Operand) (t : TypeId)
  (ho : o.op = .call { callee := .builtin .append, args := #[s, x], argTypes := #[t, t] }) (base : Nat) (e : TypeId) (i : TypeInfo) (size : Nat) (ht : P.underlying t = some (.slice e)) (hi : P.info? e = some i)
  (v : Value) (n : Nat) (xs : List Value) (hs : a.eval s = v) (hown : w.ownsRow base e size v n xs) (hx : a.eval x = .slice none 0 0) (h : K (a.put o.dst v) w) :
  if Region.wanted o (yielded ops a.tmps) = true then Oper.wp P o a w K Q else E := by
 have hw : Region.wanted o (yielded ops a.tmps) = true := by simp [Region.wanted, hgd]
 rw [if_pos hw]
 have hr := run_append_owned_none (P := P) (w := w) base t o.type e i size ht hi v n xs hown
 unfold Oper.wp execOp
 simp only [ho, resolve, invoke, builtin, Sem.run_bind, Sem.run_pure, Result.andThen_ok, List.map_toArray, List.map_cons, List.map_nil, hs, hx, hr]
 exact h
structure TOK (N e d : Nat) (z : Sy.Env) (T : List Lx.Tk → Sy.R Sy.Tr) : Prop where
 le : ∀ (n : Nat) (ts : List Lx.Tk), ts.length ≤ n → LeB n (T ts)
 calls : ROK 63 N e d z T
theorem sees_err {z : Sy.Env} {x : List UInt8} {ts : List Lx.Tk} {f : Nat × Nat} (h : Sy.seesB z x ts = .error f) : Sy.takesB z x ts = .error f := by
 unfold Sy.seesB at h
 unfold Sy.takesB
 rcases hl : Sy.lookB z ts with g | ⟨t, us⟩
 ·rw [hl] at h; simpa [Sy.bnd] using h
 ·rw [hl] at h; cases h
theorem sees_yes {z : Sy.Env} {x : List UInt8} {ts us : List Lx.Tk} (h : Sy.seesB z x ts = .ok (true, us)) : us = ts ∧ Sy.takesB z x ts = .ok (true, ts.tail) ∧ Sy.needB z x ts = .ok ((), ts.tail) := by
 unfold Sy.seesB at h
 rcases hl : Sy.lookB z ts with g | ⟨t, vs⟩
 ·rw [hl] at h; cases h
 ·rw [hl] at h
  simp only [Sy.bnd, Except.ok.injEq, Prod.mk.injEq] at h
  have := (look_ok hl).1
  exact ⟨by rw [← h.2, this], by simp [Sy.takesB, Sy.bnd, hl, h.1], by simp [Sy.needB, Sy.bnd, hl, h.1]⟩
theorem sees_no {z : Sy.Env} {x : List UInt8} {ts us : List Lx.Tk} (h : Sy.seesB z x ts = .ok (false, us)) : us = ts ∧ Sy.takesB z x ts = .ok (false, ts) := by
 unfold Sy.seesB at h
 rcases hl : Sy.lookB z ts with g | ⟨t, vs⟩
 ·rw [hl] at h; cases h
 ·rw [hl] at h
  simp only [Sy.bnd, Except.ok.injEq, Prod.mk.injEq] at h
  have := (look_ok hl).1
  exact ⟨by rw [← h.2, this], by simp [Sy.takesB, Sy.bnd, hl, h.1]⟩
theorem rowCells_app (a b : List (Sy.Tr × Value)) : rowCells (a ++ b) = rowCells a ++ rowCells b := by simp [rowCells]

theorem le_rowAll {z : Sy.Env} {N n : Nat} : ∀ (ts : List Lx.Tk), ts.length ≤ n → LeB n (Sy.rowAll z N ts) := by
 intro ts h
 unfold Sy.rowAll
 exact LeB.bnd (le_need h) fun _ _ h1 => LeB.bnd (le_row _ _ _ h1) fun _ _ h2 => LeB.bnd (le_need h2) fun _ _ h3 => LeB.okk h3
theorem rowAll_ok {z : Sy.Env} {N : Nat} {ts us : List Lx.Tk} {l : List Sy.Tr} (h : Sy.rowAll z N ts = .ok (l, us)) : ∃ u1 t1 t2 u2, Sy.needB z Sy.s_lb ts = .ok (u1, t1) ∧ Sy.rowB z N [] t1 = .ok (l, t2) ∧ Sy.needB z Sy.s_rb t2 = .ok (u2, us) := by
 unfold Sy.rowAll at h
 rcases h1 : Sy.needB z Sy.s_lb ts with f | ⟨u1, t1⟩
 ·rw [h1] at h; cases h
 ·rw [h1, Sy.bnd_ok] at h
  rcases h2 : Sy.rowB z N [] t1 with f | ⟨l2, t2⟩
  ·rw [h2] at h; cases h
  ·rw [h2, Sy.bnd_ok] at h
   rcases h3 : Sy.needB z Sy.s_rb t2 with f | ⟨u2, t3⟩
   ·rw [h3] at h; cases h
   ·rw [h3, Sy.bnd_ok] at h
    cases h
    exact ⟨u1, t1, t2, u2, rfl, h2, h3⟩
theorem rowAll_err {z : Sy.Env} {N : Nat} {ts : List Lx.Tk} {f : Nat × Nat} (h : Sy.rowAll z N ts = .error f) (K : List Sy.Tr → List Lx.Tk → Sy.R Sy.Tr) : (Sy.bnd (Sy.needB z Sy.s_lb ts) fun _ ts => Sy.bnd (Sy.rowB z N [] ts) fun l ts => Sy.bnd (Sy.needB z Sy.s_rb ts) fun _ ts => K l ts) = .error f := by
 unfold Sy.rowAll at h
 rcases h1 : Sy.needB z Sy.s_lb ts with g | ⟨u1, t1⟩
 ·rw [h1] at h; simpa [Sy.bnd] using h
 ·rw [h1, Sy.bnd_ok] at h
  rw [Sy.bnd_ok]
  rcases h2 : Sy.rowB z N [] t1 with g | ⟨l2, t2⟩
  ·rw [h2] at h; simpa [Sy.bnd] using h
  ·rw [h2, Sy.bnd_ok] at h
   rw [Sy.bnd_ok]
   rcases h3 : Sy.needB z Sy.s_rb t2 with g | ⟨u2, t3⟩
   ·rw [h3] at h; simpa [Sy.bnd] using h
   ·rw [h3, Sy.bnd_ok] at h; cases h

theorem dtypBody (N e d : Nat) (hN : N ≤ 90000) (z : Sy.Env) (T : List Lx.Tk → Sy.R Sy.Tr) (hT : TOK N e d z T) (w : World) (b B : Nat) (ts : List Lx.Tk) (h : Dr w b z ts e d) (hn : ts.length < N) (hBc : w.cell? ⟨B, 0, none⟩ = some (.pointer (some ⟨b, 0, none⟩))) (hBl : B < w.heap.size) (hBb : B ≠ b) :
  Calls Tryz.prog 99 #[.pointer (some ⟨B, 0, none⟩)] w fun en w' => DRes w b z (Sy.typBodyB z N T ts) e d en w' := by
 obtain ⟨i0, hi, hiz0, hiz1, hiz2⟩ := info_parts Tryz.info36
 have hAT := datomType N e d z T hT.le hT.calls
 have hLI := dlistType N e d z T hT.le hAT
 have hPT : ROK 100 N e d z (Sy.pairB z N T N) := fun w b ts h hn => dpairType N e d z T hT.le hLI N w b ts h hn hn
 have H := hid h
 have hbR : b < w.heap.size := h.lt
 clear h
 go_enter Tryz.func99, Tryz.ntmps99
 go_wp2_with fail
 obtain ⟨W0, hW0, HI⟩ := jn1 H.out 24
 rw [hW0]
 clear hW0
 have hz0 := HI.out.size
 refine (hPT _ b ts (by repeat (with_reducible (first | exact HI.out.rd | apply Dr.drew))) hn).mono ?_
 intro en w1 HD
 rcases hx1 : Sy.pairB z N T N ts with f1 | ⟨y1, ts1⟩
 ·obtain ⟨rfl, HK1⟩ := HD.no hx1
  have HKE := hid ((show Kp b w _ by repeat (with_reducible (first | exact HI.out.kp | apply Kp.drew))).trans HK1.out)
  go_wp2_with fail
  exact ⟨rfl, DRes.err (by simp [Sy.typBodyB, Sy.iteB_takes, Sy.bnd, hx1]) HKE.out⟩
 have H1 := hid hx1
 have hn1 : ts1.length < N := Nat.lt_of_le_of_lt (le_pair (fun ts h => hT.le _ ts h) _ _ (Nat.le_refl _) _ _ hx1) hn
 obtain ⟨a1, l1, c1, rfl, HKd1, HR1, HK1⟩ := HD.yes hx1
 clear hx1 HD
 obtain ⟨W1, hW1, HV1, HRd1, HKp1, hs1, ht1⟩ := jvar_new HKd1.out HR1.out HK1.out 24
 have HRS1 := hid ((show Blk _ w.heap.size [_, _, _, _, _] by repeat (with_reducible (first | exact HI.out.one | apply Blk.drew))).kp HKp1.out (by omega))
 have HKA1 := hid ((show Kp b w _ by repeat (with_reducible (first | exact HI.out.kp | apply Kp.drew))).trans HKp1.out)
 have hne1 : ¬ w1.heap.size = w.heap.size := by omega
 have hno1 : ¬ w.heap.size = w1.heap.size := by omega
 have hBx1_22 : W1.cell? ⟨B, 0, none⟩ = some (.pointer (some ⟨b, 0, none⟩)) := cell_kp hBc HKA1.out hBl hBb
 go_wp2_with fail
 try rw [hW1]
 clear hW1
 refine (dtakes _ b z ts1 e d Sy.s_minus (by decide) (by repeat (with_reducible (first | exact HRd1.out | apply Dr.drew)))).mono ?_
 intro en w2 HD
 rcases hx2 : Sy.takesB z Sy.s_minus ts1 with f2 | ⟨v2, ts2⟩
 ·obtain ⟨rfl, HK2⟩ := HD.no hx2
  have HKE := hid ((show Kp b w _ by repeat (with_reducible (first | exact HKA1.out | apply Kp.drew))).trans HK2.out)
  go_wp2_with fail
  exact ⟨rfl, DRes.err (by simp [Sy.typBodyB, Sy.iteB_takes, Sy.bnd, H1.out, hx2]) HKE.out⟩
 have H2 := hid hx2
 have hn2 : ts2.length < N := Nat.lt_of_le_of_lt (le_takes (Nat.le_refl _) _ _ hx2) hn1
 obtain ⟨rfl, HR2, HK2⟩ := HD.yes hx2
 clear hx2 HD
 have ht2 := HK2.out.size
 have HV1_2 := hid ((show Vr _ w1.heap.size W0.heap.size y1 a1 l1 c1 by repeat (with_reducible (first | exact HV1.out | apply Vr.drew))).kp HK2.out (by omega) (by omega))
 have HRS2 := hid ((show Blk _ w.heap.size [_, _, _, _, _] by repeat (with_reducible (first | exact HRS1.out | apply Blk.drew))).kp HK2.out (by omega))
 have HKA2 := hid ((show Kp b w _ by repeat (with_reducible (first | exact HKA1.out | apply Kp.drew))).trans HK2.out)
 have hBx2_41 : w2.cell? ⟨B, 0, none⟩ = some (.pointer (some ⟨b, 0, none⟩)) := cell_kp hBc HKA2.out hBl hBb
 cases v2 with
 | true =>
  go_wp2_with fail
  refine (drow N e d hN z _ b ts2 (by repeat (with_reducible (first | exact HR2.out | apply Dr.drew))) hn2).mono ?_
  intro en w3 HD
  rcases hx3 : Sy.rowAll z N ts2 with f3 | ⟨lr, ts3⟩
  ·obtain ⟨rfl, HK3⟩ := HD.no hx3
   have HKE := hid ((show Kp b w _ by repeat (with_reducible (first | exact HKA2.out | apply Kp.drew))).trans HK3.out)
   go_wp2_with fail
   have hRE := rowAll_err hx3 (fun l ts => Sy.bnd (Sy.needB z Sy.s_arrow ts) fun _ ts => Sy.bnd (T ts) fun b ts => .ok (Sy.nd 29 y1.pos ([y1, b] ++ l), ts))
   exact ⟨rfl, DRes.err (by unfold Sy.typBodyB; rw [H1.out, Sy.bnd_ok, Sy.iteB_takes, H2.out, Sy.bnd_ok, if_pos rfl]; exact hRE) HKE.out⟩
  have H3 := hid hx3
  have hle3 : ts3.length ≤ ts2.length := le_rowAll _ (Nat.le_refl _) _ _ hx3
  have hn3 : ts3.length < N := by omega
  obtain ⟨gr, capr, ls, rfl, hlr, hls0, hlsN, HROW, HR3, HK3⟩ := HD.yes hx3
  subst hlr
  have hlp : 0 < ls.length := List.length_pos_iff.2 hls0
  clear hx3 HD
  have ht3 := HK3.out.size
  have HV1_3 := hid ((show Vr _ w1.heap.size W0.heap.size y1 a1 l1 c1 by repeat (with_reducible (first | exact HV1_2.out | apply Vr.drew))).kp HK3.out (by omega) (by omega))
  have HRS3 := hid ((show Blk _ w.heap.size [_, _, _, _, _] by repeat (with_reducible (first | exact HRS2.out | apply Blk.drew))).kp HK3.out (by omega))
  have HKA3 := hid ((show Kp b w _ by repeat (with_reducible (first | exact HKA2.out | apply Kp.drew))).trans HK3.out)
  have HRA : Hid (Sy.needB z Sy.s_lb ts2 = Sy.needB z Sy.s_lb ts2) := hid rfl
  obtain ⟨ru1, rt1, rt2, ru2, hra1, hra2, hra3⟩ := rowAll_ok H3.out
  have HA1 := hid hra1
  have HA2 := hid hra2
  have HA3 := hid hra3
  clear hra1 hra2 hra3
  have hBx3_25 : w3.cell? ⟨B, 0, none⟩ = some (.pointer (some ⟨b, 0, none⟩)) := cell_kp hBc HKA3.out hBl hBb
  go_wp2_with fail
  have HROW0 := hid HROW.out
  refine (dneed _ b z ts3 e d Sy.s_arrow (by decide) (by repeat (with_reducible (first | exact HR3.out | apply Dr.drew)))).mono ?_
  intro en w4 HD
  rcases hx4 : Sy.needB z Sy.s_arrow ts3 with f4 | ⟨u4, ts4⟩
  ·obtain ⟨rfl, HK4⟩ := HD.no hx4
   have HKE := hid ((show Kp b w _ by repeat (with_reducible (first | exact HKA3.out | apply Kp.drew))).trans HK4.out)
   go_wp2_with fail
   exact ⟨rfl, DRes.err (by simp [Sy.typBodyB, Sy.iteB_takes, Sy.bnd, H1.out, H2.out, HA1.out, HA2.out, HA3.out, hx4]) HKE.out⟩
  have H4 := hid hx4
  have hn4 : ts4.length < N := Nat.lt_of_le_of_lt (le_need (Nat.le_refl _) _ _ hx4) hn3
  obtain ⟨rfl, HR4, HK4⟩ := HD.yes hx4
  clear hx4 HD
  have ht4 := HK4.out.size
  have HV1_4 := hid ((show Vr _ w1.heap.size W0.heap.size y1 a1 l1 c1 by repeat (with_reducible (first | exact HV1_3.out | apply Vr.drew))).kp HK4.out (by omega) (by omega))
  have HRS4 := hid ((show Blk _ w.heap.size [_, _, _, _, _] by repeat (with_reducible (first | exact HRS3.out | apply Blk.drew))).kp HK4.out (by omega))
  have HKA4 := hid ((show Kp b w _ by repeat (with_reducible (first | exact HKA3.out | apply Kp.drew))).trans HK4.out)
  have HROWx := hid (HROW.out.kp HK4.out (by omega))
  obtain ⟨⟨q1_0, q1_1, q1_2, q1_3, q1_4⟩, q1_5, q1_6, q1_7, q1_8, q1_9⟩ := blk5 HV1_4.out.cells
  obtain ⟨⟨u2_0, u2_1, u2_2, u2_3, u2_4⟩, u2_5, u2_6, u2_7, u2_8, u2_9⟩ := blk5 HRS4.out
  have hBx4_46 : w4.cell? ⟨B, 0, none⟩ = some (.pointer (some ⟨b, 0, none⟩)) := cell_kp hBc HKA4.out hBl hBb
  go_wp2_with fail
  rcases hx5 : T ts4 with f5 | ⟨y5, ts5⟩
  ·skip
   refine wp_region_held_drew (S := (fun w' => w'.cell? ⟨w1.heap.size, 0, none⟩ = some (.int .i64 y1.kind) ∧ w'.cell? ⟨w1.heap.size, 1, none⟩ = some (.int .i64 y1.pos) ∧ w'.cell? ⟨w1.heap.size, 2, none⟩ = some (.string ⟨y1.name.toArray⟩) ∧ w'.cell? ⟨w1.heap.size, 3, none⟩ = some (.int .i64 y1.num) ∧ w'.cell? ⟨w1.heap.size, 4, none⟩ = some (.slice a1 l1 c1) ∧ w'.cell? ⟨B, 0, none⟩ = some (.pointer (some ⟨b, 0, none⟩)))) (by kernel_rfl) (by first | trivial | (dsimp only; go_keep)) (fun hHeld => ?_)
   refine wpAnyH_take (i := 0) (v := ?vv0_1) rfl (by kernel_rfl) (by kernel_rfl) (by kernel_rfl) (fun _ _ _ h => h) (Or.inl ⟨by rfl, ?yy0_1⟩) (by assumption) ?rr0_1
   case yy0_1 => (intro w hSw; (try dsimp only at hSw); go_simp; (try with_reducible rfl))
   try simp only [Act.put, List.setIfInBounds_toArray, List.set_cons_zero, List.set_cons_succ]
   refine wpAnyH_take (i := 1) (v := ?vv1_1) rfl (by kernel_rfl) (by kernel_rfl) (by kernel_rfl) (fun _ _ _ h => h) (Or.inl ⟨by rfl, ?yy1_1⟩) (by assumption) ?rr1_1
   case yy1_1 => (intro w hSw; (try dsimp only at hSw); go_simp; (try with_reducible rfl))
   try simp only [Act.put, List.setIfInBounds_toArray, List.set_cons_zero, List.set_cons_succ]
   refine wpAnyH_take (i := 4) (v := ?vv4_1) rfl (by kernel_rfl) (by kernel_rfl) (by kernel_rfl) (fun _ _ _ h => h) (Or.inl ⟨by rfl, ?yy4_1⟩) (by assumption) ?rr4_1
   case yy4_1 => (intro w hSw; (try dsimp only at hSw); go_simp; (try with_reducible rfl))
   try simp only [Act.put, List.setIfInBounds_toArray, List.set_cons_zero, List.set_cons_succ]
   refine wpAnyH_ready (rs := [2]) (by kernel_rfl) (by simp) (AllReadyH.cons rfl (fun K hK => ?_) AllReadyH.nil)
   go_simp
   refine (hT.calls _ b ts4 (by repeat (with_reducible (first | exact HR4.out | apply Dr.drew))) hn4).mono ?_
   intro en w5 HD
   obtain ⟨rfl, HK5⟩ := HD.no hx5
   have HKE := hid ((show Kp b w _ by repeat (with_reducible (first | exact HKA4.out | apply Kp.drew))).trans HK5.out)
   exact ⟨rfl, DRes.err (by simp [Sy.typBodyB, Sy.iteB_takes, Sy.bnd, H1.out, H2.out, HA1.out, HA2.out, HA3.out, H4.out, hx5]) HKE.out⟩
  have H5 := hid hx5
  clear hx5
  have hneA : ¬ w1.heap.size = w.heap.size := by omega
  have hneB : ¬ w.heap.size = w1.heap.size := by omega
  go_region_held3 (fun w' => w'.cell? ⟨w1.heap.size, 0, none⟩ = some (.int .i64 y1.kind) ∧ w'.cell? ⟨w1.heap.size, 1, none⟩ = some (.int .i64 y1.pos) ∧ w'.cell? ⟨w1.heap.size, 2, none⟩ = some (.string ⟨y1.name.toArray⟩) ∧ w'.cell? ⟨w1.heap.size, 3, none⟩ = some (.int .i64 y1.num) ∧ w'.cell? ⟨w1.heap.size, 4, none⟩ = some (.slice a1 l1 c1) ∧ w'.cell? ⟨B, 0, none⟩ = some (.pointer (some ⟨b, 0, none⟩))) (go_keep) (first
   | (refine step_append_lies _ (by rfl) _ _ 22 (by rfl) W0.heap.size 24 i0 (.agg #[.int .i64 0, .int .i64 0, .string ⟨#[]⟩, .int .i64 0, .slice none 0 0]) 5 64 Tryz.underlying22 hi hiz0 hiz1 hiz2 rfl (by decide) (.slice (some ⟨w5.heap.size, 0, none⟩) 2 2) 2 (rowCells [(y1, (.slice a1 l1 c1 : Value)), (y5, (.slice a5 l5 c5 : Value))]) (by rfl) HRL.out.own ⟨gr, 0, none⟩ ls.length capr (rowCells ls) (by rfl) (rowCells_len ls) HRWa.out.news HON.out hlp (by unfold maxLen; omega) (by omega) (by simp; omega) _ rfl ?_; intro gj capj w9 hown hgrow hat hlt9; have HV9 := hid (Blk.grown (HV1_5.out.cells.alloc _) hgrow (by rw [ob_slice]; intro e0; have := Option.some.inj e0; omega)); obtain ⟨⟨t9_0, t9_1, t9_2, t9_3, t9_4⟩, t9_5, t9_6, t9_7, t9_8, t9_9⟩ := blk5 HV9.out; have HRS9 := hid (Blk.grown (HRS5.out.alloc _) hgrow (by rw [ob_slice]; intro e0; have := Option.some.inj e0; omega)); have hB9 : w9.cell? ⟨B, 0, none⟩ = some (.pointer (some ⟨b, 0, none⟩)) := (by rw [← hB5]; exact (World.cell?_of_block (a := ⟨B, 0, none⟩) (hgrow.block B (by simp; omega) (by rw [ob_slice]; intro e0; have := Option.some.inj e0; omega))).trans (World.cell?_of_block (a := ⟨B, 0, none⟩) (heap_alloc_old w5 _ (show B < w5.heap.size by omega)))))
   | (go_at_call 63; refine (hT.calls _ b ts4 (by repeat (with_reducible (first | exact HR4.out | apply Dr.drew))) hn4).mono ?_; intro en w5 HD; obtain ⟨a5, l5, c5, rfl, HKd5, HR5, HK5⟩ := HD.yes H5.out; have ht5 := HK5.out.size; (try simp at ht5); have HV1_5 := hid ((show Vr _ w1.heap.size W0.heap.size y1 a1 l1 c1 by repeat (with_reducible (first | exact HV1_4.out | apply Vr.drew))).kp HK5.out (by omega) (by omega)); obtain ⟨⟨q3_0, q3_1, q3_2, q3_3, q3_4⟩, q3_5, q3_6, q3_7, q3_8, q3_9⟩ := blk5 HV1_5.out.cells; have HRS5 := hid ((show Blk _ w.heap.size [_, _, _, _, _] by repeat (with_reducible (first | exact HRS4.out | apply Blk.drew))).kp HK5.out (by omega)); have HKA5 := hid ((show Kp b w _ by repeat (with_reducible (first | exact HKA4.out | apply Kp.drew))).trans HK5.out); obtain ⟨⟨u4_0, u4_1, u4_2, u4_3, u4_4⟩, u4_5, u4_6, u4_7, u4_8, u4_9⟩ := blk5 HRS5.out; have hlw5 : w.heap.size < w5.heap.size := Blk.lt HRS5.out; have hlv1_5 : w1.heap.size < w5.heap.size := Blk.lt HV1_5.out.cells; have HY5 : Hid (Kids w5 (fun g => w4.heap.size ≤ g) (.slice a5 l5 c5) y5.kids) := HKd5.out.weak (fun g hg _ => by (try simp at hg); omega); have hB5 : w5.cell? ⟨B, 0, none⟩ = some (.pointer (some ⟨b, 0, none⟩)) := (cell_kp hBc HKA5.out hBl hBb); have HKv5 : Hid (Kids w5 (fun q => W0.heap.size ≤ q ∧ q ≠ w5.heap.size) (.slice a1 l1 c1 : Value) y1.kids) := HV1_5.out.kids.weak (fun q hq hlt => ⟨by have := hq.1; omega, by omega⟩); have HKy5 : Hid (Kids w5 (fun q => W0.heap.size ≤ q ∧ q ≠ w5.heap.size) (.slice a5 l5 c5 : Value) y5.kids) := HY5.out.weak (fun q hq hlt => ⟨by omega, by omega⟩); have HRL := hid (rowS_lit (lo := W0.heap.size) [(y1, (.slice a1 l1 c1 : Value)), (y5, (.slice a5 l5 c5 : Value))] (by simp) w5.heap.size rfl #[.int .i64 y1.kind, .int .i64 y1.pos, .string ⟨y1.name.toArray⟩, .int .i64 y1.num, (.slice a1 l1 c1 : Value), .int .i64 y5.kind, .int .i64 y5.pos, .string ⟨y5.name.toArray⟩, .int .i64 y5.num, (.slice a5 l5 c5 : Value)] rfl 2 rfl (by decide) (by omega) (by intro p hp; simp only [List.mem_cons, List.not_mem_nil, or_false] at hp; rcases hp with rfl | rfl; exact HKv5.out.weak (fun q hq _ => hq.1); exact HKy5.out.weak (fun q hq _ => hq.1))); have HRWn := hid ((HROWx.out.past (Below.refl _ _).drew).kp HK5.out (by omega)); have HRWa := hid (HRWn.out.alloc (.cells #[.int .i64 y1.kind, .int .i64 y1.pos, .string ⟨y1.name.toArray⟩, .int .i64 y1.num, (.slice a1 l1 c1 : Value), .int .i64 y5.kind, .int .i64 y5.pos, .string ⟨y5.name.toArray⟩, .int .i64 y5.num, (.slice a5 l5 c5 : Value)] 24)); have HON := hid (rowCells_one HRWa.out.kids)))
  all_goals
   have HR9 := hid (Dr.grown (HR5.out.alloc _) hgrow (by intro q hq; rw [ob_slice]; intro e0; have := Option.some.inj e0; omega))
   have HK9 := hid (Kp.grown (HKA5.out.alloc _) hgrow (by intro q hq; rw [ob_slice]; intro e0; have := Option.some.inj e0; omega))
   have hgj : W0.heap.size ≤ gj := (hown.lt gj rfl).1
   have HKF := hid (kids_own (F := fun q => W0.heap.size ≤ q) (ls := [(y1, (.slice a1 l1 c1 : Value)), (y5, (.slice a5 l5 c5 : Value))] ++ ls) (by rw [rowCells_app]; exact hown) (by simp) (by simp; omega) hgj (by
    intro p hp
    have hgen : ∀ {kv : Value} {tk : List Sy.Tr}, Kids w5 (fun q => W0.heap.size ≤ q ∧ q ≠ w5.heap.size) kv tk → Kids w9 (fun q => W0.heap.size ≤ q) kv tk := fun hk => ((hk.pastF ((Below.refl _ _).alloc (Nat.le_refl _) _)).grown hgrow (fun q hq => by rw [ob_slice]; intro e0; exact hq.2 (Option.some.inj e0))).weak (fun q hq _ => hq.1)
    rcases List.mem_append.1 hp with hp | hp
    ·simp only [List.mem_cons, List.not_mem_nil, or_false] at hp
     rcases hp with rfl | rfl
     ·exact hgen HKv5.out
     ·exact hgen HKy5.out
    ·exact hgen ((HRWn.out.kids p hp).weak (fun q hq hlt => ⟨by have := hq.1; omega, by omega⟩))))
   obtain ⟨⟨z0, z1, z2, z3, z4⟩, z5, z6, z7, z8, z9⟩ := blk5 HRS9.out
   go_wp2_with fail
   refine bodyPost_ret (v := .agg #[.int .i64 29, .int .i64 y1.pos, .string ⟨#[]⟩, .int .i64 0, .slice (some ⟨gj, 0, none⟩) (2 + ls.length) capj]) (by simp [results, Tryz.results99, go_sem, z0, z1, z2, z3, z4, hneA, hneB]) rfl ?_
   exact dres_fin (lo := W0.heap.size) (Sy.nd 29 y1.pos (([(y1, (.slice a1 l1 c1 : Value)), (y5, (.slice a5 l5 c5 : Value))] ++ ls).map (·.1))) ts5 HKF.out HR9.out HK9.out (by simp [Sy.typBodyB, Sy.iteB_takes, Sy.bnd, H1.out, H2.out, HA1.out, HA2.out, HA3.out, H4.out, H5.out]) (by omega) (by omega) (by omega) _ _ _ _ rfl rfl rfl rfl _ _ _ _ _
 | false =>
  go_wp2_with fail
  refine (dsees _ b z ts2 e d Sy.s_arrow (by repeat (with_reducible (first | exact HR2.out | apply Dr.drew)))).mono ?_
  intro en w3 HD
  rcases hx3 : Sy.seesB z Sy.s_arrow ts2 with f3 | ⟨v3, us3⟩
  ·obtain ⟨rfl, HK3⟩ := HD.no hx3
   have hxe := sees_err hx3
   have HKE := hid ((show Kp b w _ by repeat (with_reducible (first | exact HKA2.out | apply Kp.drew))).trans HK3.out)
   go_wp2_with fail
   exact ⟨rfl, DRes.err (by simp [Sy.typBodyB, Sy.iteB_takes, Sy.bnd, H1.out, H2.out, hxe]) HKE.out⟩
  obtain ⟨rfl, HR3, HK3⟩ := HD.yes hx3
  clear HD
  have ht3 := HK3.out.size
  have HV1_3 := hid ((show Vr _ w1.heap.size W0.heap.size y1 a1 l1 c1 by repeat (with_reducible (first | exact HV1_2.out | apply Vr.drew))).kp HK3.out (by omega) (by omega))
  have HRS3 := hid ((show Blk _ w.heap.size [_, _, _, _, _] by repeat (with_reducible (first | exact HRS2.out | apply Blk.drew))).kp HK3.out (by omega))
  have HKA3 := hid ((show Kp b w _ by repeat (with_reducible (first | exact HKA2.out | apply Kp.drew))).trans HK3.out)
  cases v3 with
  | false =>
   obtain ⟨hus, htk⟩ := sees_no hx3
   subst hus
   have HTK := hid htk
   clear htk hx3
   obtain ⟨⟨q1_0, q1_1, q1_2, q1_3, q1_4⟩, q1_5, q1_6, q1_7, q1_8, q1_9⟩ := blk5 HV1_3.out.cells
   obtain ⟨⟨u2_0, u2_1, u2_2, u2_3, u2_4⟩, u2_5, u2_6, u2_7, u2_8, u2_9⟩ := blk5 HRS3.out
   go_wp2_with fail
   refine bodyPost_ret (v := .agg #[.int .i64 y1.kind, .int .i64 y1.pos, .string ⟨y1.name.toArray⟩, .int .i64 y1.num, .slice a1 l1 c1]) (by simp [results, Tryz.results99, go_sem, u2_0, u2_1, u2_2, u2_3, u2_4]) rfl ?_
   exact dres_fin (lo := W0.heap.size) y1 us3 (HV1_3.out.kids.free (by omega)) HR3.out HKA3.out (by simp [Sy.typBodyB, Sy.iteB_takes, Sy.bnd, H1.out, H2.out, HTK.out]) (by omega) (by omega) (by omega) _ _ _ _ rfl rfl rfl rfl _ _ _ _ _
  | true =>
   obtain ⟨hus, htk, hnd⟩ := sees_yes hx3
   subst hus
   have HTK := hid htk
   have HND := hid hnd
   clear htk hnd hx3
   have hBx3_5 : w3.cell? ⟨B, 0, none⟩ = some (.pointer (some ⟨b, 0, none⟩)) := cell_kp hBc HKA3.out hBl hBb
   go_wp2_with fail
   refine (dneed _ b z us3 e d Sy.s_arrow (by decide) (by repeat (with_reducible (first | exact HR3.out | apply Dr.drew)))).mono ?_
   intro en w4 HD
   obtain ⟨rfl, HR4, HK4⟩ := HD.yes HND.out
   clear HD
   have ht4 := HK4.out.size
   have hnt4 : us3.tail.length < N := by simp only [List.length_tail]; omega
   have HV1_4 := hid ((show Vr _ w1.heap.size W0.heap.size y1 a1 l1 c1 by repeat (with_reducible (first | exact HV1_3.out | apply Vr.drew))).kp HK4.out (by omega) (by omega))
   have HRS4 := hid ((show Blk _ w.heap.size [_, _, _, _, _] by repeat (with_reducible (first | exact HRS3.out | apply Blk.drew))).kp HK4.out (by omega))
   have HKA4 := hid ((show Kp b w _ by repeat (with_reducible (first | exact HKA3.out | apply Kp.drew))).trans HK4.out)
   obtain ⟨⟨q1_0, q1_1, q1_2, q1_3, q1_4⟩, q1_5, q1_6, q1_7, q1_8, q1_9⟩ := blk5 HV1_4.out.cells
   obtain ⟨⟨u2_0, u2_1, u2_2, u2_3, u2_4⟩, u2_5, u2_6, u2_7, u2_8, u2_9⟩ := blk5 HRS4.out
   have hBx4_18 : w4.cell? ⟨B, 0, none⟩ = some (.pointer (some ⟨b, 0, none⟩)) := cell_kp hBc HKA4.out hBl hBb
   go_wp2_with fail
   rcases hx5 : T us3.tail with f5 | ⟨y5, ts5⟩
   ·skip
    refine wp_region_held_drew (S := (fun w' => w'.cell? ⟨w1.heap.size, 0, none⟩ = some (.int .i64 y1.kind) ∧ w'.cell? ⟨w1.heap.size, 1, none⟩ = some (.int .i64 y1.pos) ∧ w'.cell? ⟨w1.heap.size, 2, none⟩ = some (.string ⟨y1.name.toArray⟩) ∧ w'.cell? ⟨w1.heap.size, 3, none⟩ = some (.int .i64 y1.num) ∧ w'.cell? ⟨w1.heap.size, 4, none⟩ = some (.slice a1 l1 c1) ∧ w'.cell? ⟨B, 0, none⟩ = some (.pointer (some ⟨b, 0, none⟩)))) (by kernel_rfl) (by first | trivial | (dsimp only; go_keep)) (fun hHeld => ?_)
    refine wpAnyH_take (i := 0) (v := ?vv0_2) rfl (by kernel_rfl) (by kernel_rfl) (by kernel_rfl) (fun _ _ _ h => h) (Or.inl ⟨by rfl, ?yy0_2⟩) (by assumption) ?rr0_2
    case yy0_2 => (intro w hSw; (try dsimp only at hSw); go_simp; (try with_reducible rfl))
    try simp only [Act.put, List.setIfInBounds_toArray, List.set_cons_zero, List.set_cons_succ]
    refine wpAnyH_take (i := 1) (v := ?vv1_2) rfl (by kernel_rfl) (by kernel_rfl) (by kernel_rfl) (fun _ _ _ h => h) (Or.inl ⟨by rfl, ?yy1_2⟩) (by assumption) ?rr1_2
    case yy1_2 => (intro w hSw; (try dsimp only at hSw); go_simp; (try with_reducible rfl))
    try simp only [Act.put, List.setIfInBounds_toArray, List.set_cons_zero, List.set_cons_succ]
    refine wpAnyH_take (i := 4) (v := ?vv4_2) rfl (by kernel_rfl) (by kernel_rfl) (by kernel_rfl) (fun _ _ _ h => h) (Or.inl ⟨by rfl, ?yy4_2⟩) (by assumption) ?rr4_2
    case yy4_2 => (intro w hSw; (try dsimp only at hSw); go_simp; (try with_reducible rfl))
    try simp only [Act.put, List.setIfInBounds_toArray, List.set_cons_zero, List.set_cons_succ]
    refine wpAnyH_ready (rs := [2]) (by kernel_rfl) (by simp) (AllReadyH.cons rfl (fun K hK => ?_) AllReadyH.nil)
    go_simp
    refine (hT.calls _ b us3.tail (by repeat (with_reducible (first | exact HR4.out | apply Dr.drew))) hnt4).mono ?_
    intro en w5 HD
    obtain ⟨rfl, HK5⟩ := HD.no hx5
    have HKE := hid ((show Kp b w _ by repeat (with_reducible (first | exact HKA4.out | apply Kp.drew))).trans HK5.out)
    exact ⟨rfl, DRes.err (by simp [Sy.typBodyB, Sy.iteB_takes, Sy.bnd, H1.out, H2.out, HTK.out, hx5]) HKE.out⟩
   have H5 := hid hx5
   clear hx5
   have hneA : ¬ w1.heap.size = w.heap.size := by omega
   have hneB : ¬ w.heap.size = w1.heap.size := by omega
   go_region_held3 (fun w' => w'.cell? ⟨w1.heap.size, 0, none⟩ = some (.int .i64 y1.kind) ∧ w'.cell? ⟨w1.heap.size, 1, none⟩ = some (.int .i64 y1.pos) ∧ w'.cell? ⟨w1.heap.size, 2, none⟩ = some (.string ⟨y1.name.toArray⟩) ∧ w'.cell? ⟨w1.heap.size, 3, none⟩ = some (.int .i64 y1.num) ∧ w'.cell? ⟨w1.heap.size, 4, none⟩ = some (.slice a1 l1 c1) ∧ w'.cell? ⟨B, 0, none⟩ = some (.pointer (some ⟨b, 0, none⟩))) (go_keep) (first
    | (refine step_append_none (by rfl) _ _ 22 (by rfl) W0.heap.size 24 i0 5 Tryz.underlying22 hi (.slice (some ⟨w5.heap.size, 0, none⟩) 2 2) 2 (rowCells [(y1, (.slice a1 l1 c1 : Value)), (y5, (.slice a5 l5 c5 : Value))]) (by rfl) HRL.out.own (by rfl) ?_)
    | (go_at_call 63; refine (hT.calls _ b us3.tail (by repeat (with_reducible (first | exact HR4.out | apply Dr.drew))) hnt4).mono ?_; intro en w5 HD; obtain ⟨a5, l5, c5, rfl, HKd5, HR5, HK5⟩ := HD.yes H5.out; have ht5 := HK5.out.size; (try simp at ht5); have HV1_5 := hid ((show Vr _ w1.heap.size W0.heap.size y1 a1 l1 c1 by repeat (with_reducible (first | exact HV1_4.out | apply Vr.drew))).kp HK5.out (by omega) (by omega)); obtain ⟨⟨q3_0, q3_1, q3_2, q3_3, q3_4⟩, q3_5, q3_6, q3_7, q3_8, q3_9⟩ := blk5 HV1_5.out.cells; have HRS5 := hid ((show Blk _ w.heap.size [_, _, _, _, _] by repeat (with_reducible (first | exact HRS4.out | apply Blk.drew))).kp HK5.out (by omega)); have HKA5 := hid ((show Kp b w _ by repeat (with_reducible (first | exact HKA4.out | apply Kp.drew))).trans HK5.out); obtain ⟨⟨u4_0, u4_1, u4_2, u4_3, u4_4⟩, u4_5, u4_6, u4_7, u4_8, u4_9⟩ := blk5 HRS5.out; have hlw5 : w.heap.size < w5.heap.size := Blk.lt HRS5.out; have hlv1_5 : w1.heap.size < w5.heap.size := Blk.lt HV1_5.out.cells; have HY5 : Hid (Kids w5 (fun g => w4.heap.size ≤ g) (.slice a5 l5 c5) y5.kids) := HKd5.out.weak (fun g hg _ => by (try simp at hg); omega); have hB5 : w5.cell? ⟨B, 0, none⟩ = some (.pointer (some ⟨b, 0, none⟩)) := (cell_kp hBc HKA5.out hBl hBb); have HKv5 : Hid (Kids w5 (fun q => W0.heap.size ≤ q ∧ q ≠ w5.heap.size) (.slice a1 l1 c1 : Value) y1.kids) := HV1_5.out.kids.weak (fun q hq hlt => ⟨by have := hq.1; omega, by omega⟩); have HKy5 : Hid (Kids w5 (fun q => W0.heap.size ≤ q ∧ q ≠ w5.heap.size) (.slice a5 l5 c5 : Value) y5.kids) := HY5.out.weak (fun q hq hlt => ⟨by omega, by omega⟩); have HRL := hid (rowS_lit (lo := W0.heap.size) [(y1, (.slice a1 l1 c1 : Value)), (y5, (.slice a5 l5 c5 : Value))] (by simp) w5.heap.size rfl #[.int .i64 y1.kind, .int .i64 y1.pos, .string ⟨y1.name.toArray⟩, .int .i64 y1.num, (.slice a1 l1 c1 : Value), .int .i64 y5.kind, .int .i64 y5.pos, .string ⟨y5.name.toArray⟩, .int .i64 y5.num, (.slice a5 l5 c5 : Value)] rfl 2 rfl (by decide) (by omega) (by intro p hp; simp only [List.mem_cons, List.not_mem_nil, or_false] at hp; rcases hp with rfl | rfl; exact HKv5.out.weak (fun q hq _ => hq.1); exact HKy5.out.weak (fun q hq _ => hq.1)))))
   all_goals
    have HR9 := hid (HR5.out.alloc (.cells #[.int .i64 y1.kind, .int .i64 y1.pos, .string ⟨y1.name.toArray⟩, .int .i64 y1.num, (.slice a1 l1 c1 : Value), .int .i64 y5.kind, .int .i64 y5.pos, .string ⟨y5.name.toArray⟩, .int .i64 y5.num, (.slice a5 l5 c5 : Value)] 24))
    have HK9 := hid (HKA5.out.alloc (.cells #[.int .i64 y1.kind, .int .i64 y1.pos, .string ⟨y1.name.toArray⟩, .int .i64 y1.num, (.slice a1 l1 c1 : Value), .int .i64 y5.kind, .int .i64 y5.pos, .string ⟨y5.name.toArray⟩, .int .i64 y5.num, (.slice a5 l5 c5 : Value)] 24))
    have HRS9 := hid (HRS5.out.alloc (.cells #[.int .i64 y1.kind, .int .i64 y1.pos, .string ⟨y1.name.toArray⟩, .int .i64 y1.num, (.slice a1 l1 c1 : Value), .int .i64 y5.kind, .int .i64 y5.pos, .string ⟨y5.name.toArray⟩, .int .i64 y5.num, (.slice a5 l5 c5 : Value)] 24))
    have HKF := hid (HRL.out.kidsOf (by simp) (by simp))
    obtain ⟨⟨z0, z1, z2, z3, z4⟩, z5, z6, z7, z8, z9⟩ := blk5 HRS5.out
    have hlw0 : w.heap.size < w5.heap.size := Blk.lt HRS5.out
    go_wp2_with fail
    refine bodyPost_ret (v := .agg #[.int .i64 29, .int .i64 y1.pos, .string ⟨#[]⟩, .int .i64 0, .slice (some ⟨w5.heap.size, 0, none⟩) 2 2]) (by simp [results, Tryz.results99, go_sem, z0, z1, z2, z3, z4, hlw0, hneA, hneB]) rfl ?_
    exact dres_finl (lo := W0.heap.size) (Sy.nd 29 y1.pos [y1, y5]) ts5 [(y1, .slice a1 l1 c1), (y5, .slice a5 l5 c5)] (by simp) (by intro p hp; simp only [List.mem_cons, List.not_mem_nil, or_false] at hp; rcases hp with rfl | rfl <;> first | exact (HKv5.out.weak (fun q hq _ => hq.1)) | exact (HKy5.out.weak (fun q hq _ => hq.1))) rfl HR5.out HKA5.out (by simp [Sy.typBodyB, Sy.iteB_takes, Sy.bnd, H1.out, H2.out, HTK.out, H5.out]) (by omega) (by omega) (by omega) (by omega) _ rfl 2 rfl _ _ _ _ _ rfl rfl rfl rfl _ _ _ _ _ _ rfl
theorem dtyps (N e : Nat) (hN : N ≤ 90000) (z : Sy.Env) : ∀ k, k ≤ 200 → TOK N e (200 - k) z (Sy.typB z N k) := by
 intro k
 induction k with
 | zero =>
  intro _
  refine ⟨fun n ts h => le_typ _ ts h, fun w b ts h hn => ?_⟩
  refine dtyp_face _ w b e _ z ts h (fun W hD hB hBl => ?_)
  exact dwithinDeepT W b e _ z ts _ rfl hD
 | succ k ih =>
  intro hk
  refine ⟨fun n ts h => le_typ _ ts h, fun w b ts h hn => ?_⟩
  have hT := ih (by omega)
  obtain ⟨dd, he⟩ : ∃ dd, 200 - (k + 1) = dd := ⟨_, rfl⟩
  have he2 : 200 - k = dd + 1 := by omega
  rw [he] at h ⊢
  rw [he2] at hT
  have hbR : b < w.heap.size := h.lt
  refine dtyp_face _ w b e dd z ts h (fun W hD hB hBl => ?_)
  exact dwithinT N W b w.heap.size e dd z ts _ (by omega) hD hB hBl (by omega) (fun W2 hD2 hB2 hBl2 => dtypBody N e (dd + 1) hN z _ hT W2 b w.heap.size ts hD2 hn hB2 hBl2 (by omega))

end Go.Proofs.YtoajnlhegallpaaGreatDoor
