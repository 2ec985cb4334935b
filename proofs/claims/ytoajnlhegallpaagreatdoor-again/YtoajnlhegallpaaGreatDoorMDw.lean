/-
  What the program's rules do: expr.
  What the program's expr does: within.
-/
import Derived.Test.YtoajnlhegallpaaGreatDoorMDu
set_option linter.unusedVariables false
set_option linter.unusedSimpArgs false
set_option maxRecDepth 100000
set_option maxHeartbeats 4000000
namespace Go.Proofs.YtoajnlhegallpaaGreatDoor
open Go.RowKit

theorem druleOf0 (w : World) (x : List UInt8) (h0 : (x == [108, 101, 116]) = true) : Calls Tryz.prog 69 #[.string ⟨x.toArray⟩] w fun en w' => en = .returned (.func (Fn.func 102) #[] #[]) ∧ w' = w := by
 go_enter Tryz.func69, Tryz.ntmps69
 go_wp2_with fail
 exact bodyPost_ret (v := .func (Fn.func 102) #[] #[]) (by simp [results, Tryz.results69, go_sem]) rfl ⟨rfl, rfl⟩
theorem druleOf1 (w : World) (x : List UInt8) (h0 : (x == [108, 101, 116]) = false) (h1 : (x == [102, 110]) = true) : Calls Tryz.prog 69 #[.string ⟨x.toArray⟩] w fun en w' => en = .returned (.func (Fn.func 103) #[] #[]) ∧ w' = w := by
 go_enter Tryz.func69, Tryz.ntmps69
 go_wp2_with fail
 exact bodyPost_ret (v := .func (Fn.func 103) #[] #[]) (by simp [results, Tryz.results69, go_sem]) rfl ⟨rfl, rfl⟩
theorem druleOf2 (w : World) (x : List UInt8) (h0 : (x == [108, 101, 116]) = false) (h1 : (x == [102, 110]) = false) (h2 : (x == [105, 102]) = true) : Calls Tryz.prog 69 #[.string ⟨x.toArray⟩] w fun en w' => en = .returned (.func (Fn.func 104) #[] #[]) ∧ w' = w := by
 go_enter Tryz.func69, Tryz.ntmps69
 go_wp2_with fail
 exact bodyPost_ret (v := .func (Fn.func 104) #[] #[]) (by simp [results, Tryz.results69, go_sem]) rfl ⟨rfl, rfl⟩
theorem druleOf3 (w : World) (x : List UInt8) (h0 : (x == [108, 101, 116]) = false) (h1 : (x == [102, 110]) = false) (h2 : (x == [105, 102]) = false) (h3 : (x == [99, 97, 115, 101]) = true) : Calls Tryz.prog 69 #[.string ⟨x.toArray⟩] w fun en w' => en = .returned (.func (Fn.func 105) #[] #[]) ∧ w' = w := by
 go_enter Tryz.func69, Tryz.ntmps69
 go_wp2_with fail
 exact bodyPost_ret (v := .func (Fn.func 105) #[] #[]) (by simp [results, Tryz.results69, go_sem]) rfl ⟨rfl, rfl⟩
theorem druleOf4 (w : World) (x : List UInt8) (h0 : (x == [108, 101, 116]) = false) (h1 : (x == [102, 110]) = false) (h2 : (x == [105, 102]) = false) (h3 : (x == [99, 97, 115, 101]) = false) (h4 : (x == [104, 97, 110, 100, 108, 101]) = true) : Calls Tryz.prog 69 #[.string ⟨x.toArray⟩] w fun en w' => en = .returned (.func (Fn.func 106) #[] #[]) ∧ w' = w := by
 go_enter Tryz.func69, Tryz.ntmps69
 go_wp2_with fail
 exact bodyPost_ret (v := .func (Fn.func 106) #[] #[]) (by simp [results, Tryz.results69, go_sem]) rfl ⟨rfl, rfl⟩
theorem druleOf5 (w : World) (x : List UInt8) (h0 : (x == [108, 101, 116]) = false) (h1 : (x == [102, 110]) = false) (h2 : (x == [105, 102]) = false) (h3 : (x == [99, 97, 115, 101]) = false) (h4 : (x == [104, 97, 110, 100, 108, 101]) = false) (h5 : (x == [115, 104, 97, 108, 108, 111, 119]) = true) : Calls Tryz.prog 69 #[.string ⟨x.toArray⟩] w fun en w' => en = .returned (.func (Fn.func 106) #[] #[]) ∧ w' = w := by
 go_enter Tryz.func69, Tryz.ntmps69
 go_wp2_with fail
 exact bodyPost_ret (v := .func (Fn.func 106) #[] #[]) (by simp [results, Tryz.results69, go_sem]) rfl ⟨rfl, rfl⟩
theorem druleOf6 (w : World) (x : List UInt8) (h0 : (x == [108, 101, 116]) = false) (h1 : (x == [102, 110]) = false) (h2 : (x == [105, 102]) = false) (h3 : (x == [99, 97, 115, 101]) = false) (h4 : (x == [104, 97, 110, 100, 108, 101]) = false) (h5 : (x == [115, 104, 97, 108, 108, 111, 119]) = false) : Calls Tryz.prog 69 #[.string ⟨x.toArray⟩] w fun en w' => en = .returned (.nilFunc) ∧ w' = w := by
 go_enter Tryz.func69, Tryz.ntmps69
 go_wp2_with fail
 exact bodyPost_ret (v := .nilFunc) (by simp [results, Tryz.results69, go_sem]) rfl ⟨rfl, rfl⟩
theorem rule_ne (f : Fn) (w : World) : (binOp BinOp.neq 92 (Value.func f #[] #[]) Value.nilFunc).run Tryz.prog w = .ok (.bool true) w := rfl
theorem rule_nil (w : World) : (binOp BinOp.neq 92 Value.nilFunc Value.nilFunc).run Tryz.prog w = .ok (.bool false) w := rfl
theorem cell_kp {w W : World} {b B : Nat} {v : Value} (h : w.cell? ⟨B, 0, none⟩ = some v) (hk : Kp b w W) (hB : B < w.heap.size) (hne : B ≠ b) : W.cell? ⟨B, 0, none⟩ = some v := by
 rw [← h]
 exact World.cell?_of_block (a := ⟨B, 0, none⟩) (hk.block B hB (fun e => hne (Option.some.inj e)))

theorem dany (N e d : Nat) (hN : N ≤ 90000) (z : Sy.Env) (E : List Lx.Tk → Sy.R Sy.Tr) (hE : EOK N e d z E) (w : World) (b B : Nat) (ts : List Lx.Tk) (h : Dr w b z ts e d) (hn : ts.length < N) (hBc : w.cell? ⟨B, 0, none⟩ = some (.pointer (some ⟨b, 0, none⟩))) (hBl : B < w.heap.size) (hBb : B ≠ b) :
  Calls Tryz.prog 68 #[.pointer (some ⟨B, 0, none⟩)] w fun en w' => DRes w b z (Sy.anyB z N E ts) e d en w' := by
 have hAT := datom N e d hN z E hE
 have hAP := dapplication N e d z E hE hAT
 have hPR := dproduct N e d z E hE hAP
 have hSU := dsum N e d z E hE hPR
 have hCO : ROK 134 N e d z (Sy.consB z N E N) := fun w b ts h hn => dcons N e d z E hE hSU N w b ts h hn hn
 have hCP := dcomparison N e d z E hE hCO
 have hSE := dsequence N e d z E hE hCP
 have HBC := hid hBc
 have hrn := rule_ne
 have hrz := rule_nil
 have H := hid h
 have hbR : b < w.heap.size := h.lt
 clear h
 go_enter Tryz.func68, Tryz.ntmps68
 go_wp2_with fail
 obtain ⟨W0, hW0, HI⟩ := jn1 H.out 24
 rw [hW0]
 clear hW0
 have hz0 := HI.out.size
 rcases hl1 : Sy.lookB z ts with f1 | ⟨t1, us1⟩
 ·refine (dlook _ b z ts e d (by repeat (with_reducible (first | exact HI.out.rd | apply Dr.drew)))).mono ?_
  intro en w1 HD
  obtain ⟨rfl, HK1⟩ := HD.no (f := f1) (by simp [Sy.bnd, hl1])
  have HKE := hid ((show Kp b w _ by repeat (with_reducible (first | exact HI.out.kp | apply Kp.drew))).trans HK1.out)
  go_wp2_with fail
  exact ⟨rfl, DRes.err (by simp [Sy.anyB, Sy.iteB_takes, Sy.bnd, hl1]) HKE.out⟩
 have HL1 : Hid (Sy.lookB z ts = .ok (t1, ts)) := by obtain ⟨h1, _⟩ := look_ok hl1; rw [Hid, hl1, h1]
 clear hl1
 obtain ⟨hf1_0, hf1_1, hf1_2, hf1_3⟩ := fld_tk (.int .i64 t1.kind) (.int .i64 t1.pos) (.string ⟨t1.text.toArray⟩) (.int .i64 t1.num)
 refine (dlook _ b z ts e d (by repeat (with_reducible (first | exact HI.out.rd | apply Dr.drew)))).mono ?_
 intro en w2 HD
 obtain ⟨rfl, HR2, HK2⟩ := HD.yes HL1.out
 dsimp only [tkV]
 clear HD
 have ht2 := HK2.out.size
 have HRS2 := hid ((show Blk _ w.heap.size [_, _, _, _, _] by repeat (with_reducible (first | exact HI.out.one | apply Blk.drew))).kp HK2.out (by omega))
 have HKA2 := hid ((show Kp b w _ by repeat (with_reducible (first | exact HI.out.kp | apply Kp.drew))).trans HK2.out)
 have hBcur : w2.cell? ⟨B, 0, none⟩ = some (.pointer (some ⟨b, 0, none⟩)) := cell_kp hBc HKA2.out hBl hBb
 go_wp2_with fail
 cases hv0 : (t1.text == Sy.w_let) with
 | true =>
  have hu0 : (t1.text == [108, 101, 116]) = true := hv0
  refine (druleOf0 _ t1.text hu0).mono ?_
  rintro en w' ⟨rfl, rfl⟩
  go_wp2_with fail
  obtain ⟨tl, htl⟩ : ∃ tl, ts = t1 :: tl := ⟨ts.tail, look_some HL1.out (.inl (text_ne hv0 (by decide)))⟩
  subst htl
  refine (dlet N e d hN z E hE _ b t1 tl (by repeat (with_reducible (first | exact HR2.out | apply Dr.drew))) hn).mono ?_
  intro en w3 HD
  rcases hx3 : Sy.letB z N E (t1 :: tl) with f3 | ⟨y3, ts3⟩
  ·obtain ⟨rfl, HK3⟩ := HD.no hx3
   have HKE := hid ((show Kp b w _ by repeat (with_reducible (first | exact HKA2.out | apply Kp.drew))).trans HK3.out)
   go_wp2_with fail
   exact ⟨rfl, DRes.err (by simp [Sy.anyB, Sy.iteB_takes, Sy.bnd, HL1.out, hv0, hx3]) HKE.out⟩
  have H3 := hid hx3
  obtain ⟨a3, l3, c3, rfl, HKd3, HR3, HK3⟩ := HD.yes hx3
  clear hx3 HD
  have ht3 := HK3.out.size
  have HRS3 := hid ((show Blk _ w.heap.size [_, _, _, _, _] by repeat (with_reducible (first | exact HRS2.out | apply Blk.drew))).kp HK3.out (by omega))
  have HKA3 := hid ((show Kp b w _ by repeat (with_reducible (first | exact HKA2.out | apply Kp.drew))).trans HK3.out)
  obtain ⟨⟨u1_0, u1_1, u1_2, u1_3, u1_4⟩, u1_5, u1_6, u1_7, u1_8, u1_9⟩ := blk5 HRS3.out
  go_wp2_with fail
  refine bodyPost_ret (v := .agg #[.int .i64 y3.kind, .int .i64 y3.pos, .string ⟨y3.name.toArray⟩, .int .i64 y3.num, .slice a3 l3 c3]) (by simp [results, Tryz.results68, go_sem, u1_0, u1_1, u1_2, u1_3, u1_4]) rfl ?_
  exact dres_fin (lo := W0.heap.size) y3 ts3 (HKd3.out.weak (fun g hg _ => Nat.le_trans (by omega) hg)) HR3.out HKA3.out (by simp [Sy.anyB, Sy.iteB_takes, Sy.bnd, HL1.out, hv0, H3.out]) (by omega) (by omega) (by omega) _ _ _ _ rfl rfl rfl rfl _ _ _ _ _
 | false =>
  cases hv1 : (t1.text == Sy.w_fn) with
  | true =>
   have hu0 : (t1.text == [108, 101, 116]) = false := hv0
   have hu1 : (t1.text == [102, 110]) = true := hv1
   refine (druleOf1 _ t1.text hu0 hu1).mono ?_
   rintro en w' ⟨rfl, rfl⟩
   go_wp2_with fail
   obtain ⟨tl, htl⟩ : ∃ tl, ts = t1 :: tl := ⟨ts.tail, look_some HL1.out (.inl (text_ne hv1 (by decide)))⟩
   subst htl
   refine (dfunction N e d hN z E hE _ b t1 tl (by repeat (with_reducible (first | exact HR2.out | apply Dr.drew))) hn).mono ?_
   intro en w3 HD
   rcases hx3 : Sy.fnB z N E (t1 :: tl) with f3 | ⟨y3, ts3⟩
   ·obtain ⟨rfl, HK3⟩ := HD.no hx3
    have HKE := hid ((show Kp b w _ by repeat (with_reducible (first | exact HKA2.out | apply Kp.drew))).trans HK3.out)
    go_wp2_with fail
    exact ⟨rfl, DRes.err (by simp [Sy.anyB, Sy.iteB_takes, Sy.bnd, HL1.out, hv0, hv1, hx3]) HKE.out⟩
   have H3 := hid hx3
   obtain ⟨a3, l3, c3, rfl, HKd3, HR3, HK3⟩ := HD.yes hx3
   clear hx3 HD
   have ht3 := HK3.out.size
   have HRS3 := hid ((show Blk _ w.heap.size [_, _, _, _, _] by repeat (with_reducible (first | exact HRS2.out | apply Blk.drew))).kp HK3.out (by omega))
   have HKA3 := hid ((show Kp b w _ by repeat (with_reducible (first | exact HKA2.out | apply Kp.drew))).trans HK3.out)
   obtain ⟨⟨u1_0, u1_1, u1_2, u1_3, u1_4⟩, u1_5, u1_6, u1_7, u1_8, u1_9⟩ := blk5 HRS3.out
   go_wp2_with fail
   refine bodyPost_ret (v := .agg #[.int .i64 y3.kind, .int .i64 y3.pos, .string ⟨y3.name.toArray⟩, .int .i64 y3.num, .slice a3 l3 c3]) (by simp [results, Tryz.results68, go_sem, u1_0, u1_1, u1_2, u1_3, u1_4]) rfl ?_
   exact dres_fin (lo := W0.heap.size) y3 ts3 (HKd3.out.weak (fun g hg _ => Nat.le_trans (by omega) hg)) HR3.out HKA3.out (by simp [Sy.anyB, Sy.iteB_takes, Sy.bnd, HL1.out, hv0, hv1, H3.out]) (by omega) (by omega) (by omega) _ _ _ _ rfl rfl rfl rfl _ _ _ _ _
  | false =>
   cases hv2 : (t1.text == Sy.w_if) with
   | true =>
    have hu0 : (t1.text == [108, 101, 116]) = false := hv0
    have hu1 : (t1.text == [102, 110]) = false := hv1
    have hu2 : (t1.text == [105, 102]) = true := hv2
    refine (druleOf2 _ t1.text hu0 hu1 hu2).mono ?_
    rintro en w' ⟨rfl, rfl⟩
    go_wp2_with fail
    obtain ⟨tl, htl⟩ : ∃ tl, ts = t1 :: tl := ⟨ts.tail, look_some HL1.out (.inl (text_ne hv2 (by decide)))⟩
    subst htl
    refine (dchoice N e d z E hE _ b t1 tl (by repeat (with_reducible (first | exact HR2.out | apply Dr.drew))) hn).mono ?_
    intro en w3 HD
    rcases hx3 : Sy.ifB z E (t1 :: tl) with f3 | ⟨y3, ts3⟩
    ·obtain ⟨rfl, HK3⟩ := HD.no hx3
     have HKE := hid ((show Kp b w _ by repeat (with_reducible (first | exact HKA2.out | apply Kp.drew))).trans HK3.out)
     go_wp2_with fail
     exact ⟨rfl, DRes.err (by simp [Sy.anyB, Sy.iteB_takes, Sy.bnd, HL1.out, hv0, hv1, hv2, hx3]) HKE.out⟩
    have H3 := hid hx3
    obtain ⟨a3, l3, c3, rfl, HKd3, HR3, HK3⟩ := HD.yes hx3
    clear hx3 HD
    have ht3 := HK3.out.size
    have HRS3 := hid ((show Blk _ w.heap.size [_, _, _, _, _] by repeat (with_reducible (first | exact HRS2.out | apply Blk.drew))).kp HK3.out (by omega))
    have HKA3 := hid ((show Kp b w _ by repeat (with_reducible (first | exact HKA2.out | apply Kp.drew))).trans HK3.out)
    obtain ⟨⟨u1_0, u1_1, u1_2, u1_3, u1_4⟩, u1_5, u1_6, u1_7, u1_8, u1_9⟩ := blk5 HRS3.out
    go_wp2_with fail
    refine bodyPost_ret (v := .agg #[.int .i64 y3.kind, .int .i64 y3.pos, .string ⟨y3.name.toArray⟩, .int .i64 y3.num, .slice a3 l3 c3]) (by simp [results, Tryz.results68, go_sem, u1_0, u1_1, u1_2, u1_3, u1_4]) rfl ?_
    exact dres_fin (lo := W0.heap.size) y3 ts3 (HKd3.out.weak (fun g hg _ => Nat.le_trans (by omega) hg)) HR3.out HKA3.out (by simp [Sy.anyB, Sy.iteB_takes, Sy.bnd, HL1.out, hv0, hv1, hv2, H3.out]) (by omega) (by omega) (by omega) _ _ _ _ rfl rfl rfl rfl _ _ _ _ _
   | false =>
    cases hv3 : (t1.text == Sy.w_case) with
    | true =>
     have hu0 : (t1.text == [108, 101, 116]) = false := hv0
     have hu1 : (t1.text == [102, 110]) = false := hv1
     have hu2 : (t1.text == [105, 102]) = false := hv2
     have hu3 : (t1.text == [99, 97, 115, 101]) = true := hv3
     refine (druleOf3 _ t1.text hu0 hu1 hu2 hu3).mono ?_
     rintro en w' ⟨rfl, rfl⟩
     go_wp2_with fail
     obtain ⟨tl, htl⟩ : ∃ tl, ts = t1 :: tl := ⟨ts.tail, look_some HL1.out (.inl (text_ne hv3 (by decide)))⟩
     subst htl
     refine (dcases N e d z E hE _ b t1 tl (by repeat (with_reducible (first | exact HR2.out | apply Dr.drew))) hn).mono ?_
     intro en w3 HD
     rcases hx3 : Sy.casesB z E (t1 :: tl) with f3 | ⟨y3, ts3⟩
     ·obtain ⟨rfl, HK3⟩ := HD.no hx3
      have HKE := hid ((show Kp b w _ by repeat (with_reducible (first | exact HKA2.out | apply Kp.drew))).trans HK3.out)
      go_wp2_with fail
      exact ⟨rfl, DRes.err (by simp [Sy.anyB, Sy.iteB_takes, Sy.bnd, HL1.out, hv0, hv1, hv2, hv3, hx3]) HKE.out⟩
     have H3 := hid hx3
     obtain ⟨a3, l3, c3, rfl, HKd3, HR3, HK3⟩ := HD.yes hx3
     clear hx3 HD
     have ht3 := HK3.out.size
     have HRS3 := hid ((show Blk _ w.heap.size [_, _, _, _, _] by repeat (with_reducible (first | exact HRS2.out | apply Blk.drew))).kp HK3.out (by omega))
     have HKA3 := hid ((show Kp b w _ by repeat (with_reducible (first | exact HKA2.out | apply Kp.drew))).trans HK3.out)
     obtain ⟨⟨u1_0, u1_1, u1_2, u1_3, u1_4⟩, u1_5, u1_6, u1_7, u1_8, u1_9⟩ := blk5 HRS3.out
     go_wp2_with fail
     refine bodyPost_ret (v := .agg #[.int .i64 y3.kind, .int .i64 y3.pos, .string ⟨y3.name.toArray⟩, .int .i64 y3.num, .slice a3 l3 c3]) (by simp [results, Tryz.results68, go_sem, u1_0, u1_1, u1_2, u1_3, u1_4]) rfl ?_
     exact dres_fin (lo := W0.heap.size) y3 ts3 (HKd3.out.weak (fun g hg _ => Nat.le_trans (by omega) hg)) HR3.out HKA3.out (by simp [Sy.anyB, Sy.iteB_takes, Sy.bnd, HL1.out, hv0, hv1, hv2, hv3, H3.out]) (by omega) (by omega) (by omega) _ _ _ _ rfl rfl rfl rfl _ _ _ _ _
    | false =>
     cases hv4 : (t1.text == Sy.w_handle) with
     | true =>
      have hu0 : (t1.text == [108, 101, 116]) = false := hv0
      have hu1 : (t1.text == [102, 110]) = false := hv1
      have hu2 : (t1.text == [105, 102]) = false := hv2
      have hu3 : (t1.text == [99, 97, 115, 101]) = false := hv3
      have hu4 : (t1.text == [104, 97, 110, 100, 108, 101]) = true := hv4
      refine (druleOf4 _ t1.text hu0 hu1 hu2 hu3 hu4).mono ?_
      rintro en w' ⟨rfl, rfl⟩
      go_wp2_with fail
      obtain ⟨tl, htl⟩ : ∃ tl, ts = t1 :: tl := ⟨ts.tail, look_some HL1.out (.inl (text_ne hv4 (by decide)))⟩
      subst htl
      refine (dhandler N e d hN z E hE _ b t1 tl (by repeat (with_reducible (first | exact HR2.out | apply Dr.drew))) hn).mono ?_
      intro en w3 HD
      rcases hx3 : Sy.handleB z N E (t1 :: tl) with f3 | ⟨y3, ts3⟩
      ·obtain ⟨rfl, HK3⟩ := HD.no hx3
       have HKE := hid ((show Kp b w _ by repeat (with_reducible (first | exact HKA2.out | apply Kp.drew))).trans HK3.out)
       go_wp2_with fail
       exact ⟨rfl, DRes.err (by simp [Sy.anyB, Sy.iteB_takes, Sy.bnd, HL1.out, hv0, hv1, hv2, hv3, hv4, hx3]) HKE.out⟩
      have H3 := hid hx3
      obtain ⟨a3, l3, c3, rfl, HKd3, HR3, HK3⟩ := HD.yes hx3
      clear hx3 HD
      have ht3 := HK3.out.size
      have HRS3 := hid ((show Blk _ w.heap.size [_, _, _, _, _] by repeat (with_reducible (first | exact HRS2.out | apply Blk.drew))).kp HK3.out (by omega))
      have HKA3 := hid ((show Kp b w _ by repeat (with_reducible (first | exact HKA2.out | apply Kp.drew))).trans HK3.out)
      obtain ⟨⟨u1_0, u1_1, u1_2, u1_3, u1_4⟩, u1_5, u1_6, u1_7, u1_8, u1_9⟩ := blk5 HRS3.out
      go_wp2_with fail
      refine bodyPost_ret (v := .agg #[.int .i64 y3.kind, .int .i64 y3.pos, .string ⟨y3.name.toArray⟩, .int .i64 y3.num, .slice a3 l3 c3]) (by simp [results, Tryz.results68, go_sem, u1_0, u1_1, u1_2, u1_3, u1_4]) rfl ?_
      exact dres_fin (lo := W0.heap.size) y3 ts3 (HKd3.out.weak (fun g hg _ => Nat.le_trans (by omega) hg)) HR3.out HKA3.out (by simp [Sy.anyB, Sy.iteB_takes, Sy.bnd, HL1.out, hv0, hv1, hv2, hv3, hv4, H3.out]) (by omega) (by omega) (by omega) _ _ _ _ rfl rfl rfl rfl _ _ _ _ _
     | false =>
      cases hv5 : (t1.text == Sy.w_shallow) with
      | true =>
       have hu0 : (t1.text == [108, 101, 116]) = false := hv0
       have hu1 : (t1.text == [102, 110]) = false := hv1
       have hu2 : (t1.text == [105, 102]) = false := hv2
       have hu3 : (t1.text == [99, 97, 115, 101]) = false := hv3
       have hu4 : (t1.text == [104, 97, 110, 100, 108, 101]) = false := hv4
       have hu5 : (t1.text == [115, 104, 97, 108, 108, 111, 119]) = true := hv5
       refine (druleOf5 _ t1.text hu0 hu1 hu2 hu3 hu4 hu5).mono ?_
       rintro en w' ⟨rfl, rfl⟩
       go_wp2_with fail
       obtain ⟨tl, htl⟩ : ∃ tl, ts = t1 :: tl := ⟨ts.tail, look_some HL1.out (.inl (text_ne hv5 (by decide)))⟩
       subst htl
       refine (dhandler N e d hN z E hE _ b t1 tl (by repeat (with_reducible (first | exact HR2.out | apply Dr.drew))) hn).mono ?_
       intro en w3 HD
       rcases hx3 : Sy.handleB z N E (t1 :: tl) with f3 | ⟨y3, ts3⟩
       ·obtain ⟨rfl, HK3⟩ := HD.no hx3
        have HKE := hid ((show Kp b w _ by repeat (with_reducible (first | exact HKA2.out | apply Kp.drew))).trans HK3.out)
        go_wp2_with fail
        exact ⟨rfl, DRes.err (by simp [Sy.anyB, Sy.iteB_takes, Sy.bnd, HL1.out, hv0, hv1, hv2, hv3, hv4, hv5, hx3]) HKE.out⟩
       have H3 := hid hx3
       obtain ⟨a3, l3, c3, rfl, HKd3, HR3, HK3⟩ := HD.yes hx3
       clear hx3 HD
       have ht3 := HK3.out.size
       have HRS3 := hid ((show Blk _ w.heap.size [_, _, _, _, _] by repeat (with_reducible (first | exact HRS2.out | apply Blk.drew))).kp HK3.out (by omega))
       have HKA3 := hid ((show Kp b w _ by repeat (with_reducible (first | exact HKA2.out | apply Kp.drew))).trans HK3.out)
       obtain ⟨⟨u1_0, u1_1, u1_2, u1_3, u1_4⟩, u1_5, u1_6, u1_7, u1_8, u1_9⟩ := blk5 HRS3.out
       go_wp2_with fail
       refine bodyPost_ret (v := .agg #[.int .i64 y3.kind, .int .i64 y3.pos, .string ⟨y3.name.toArray⟩, .int .i64 y3.num, .slice a3 l3 c3]) (by simp [results, Tryz.results68, go_sem, u1_0, u1_1, u1_2, u1_3, u1_4]) rfl ?_
       exact dres_fin (lo := W0.heap.size) y3 ts3 (HKd3.out.weak (fun g hg _ => Nat.le_trans (by omega) hg)) HR3.out HKA3.out (by simp [Sy.anyB, Sy.iteB_takes, Sy.bnd, HL1.out, hv0, hv1, hv2, hv3, hv4, hv5, H3.out]) (by omega) (by omega) (by omega) _ _ _ _ rfl rfl rfl rfl _ _ _ _ _
      | false =>
       have hu0 : (t1.text == [108, 101, 116]) = false := hv0
       have hu1 : (t1.text == [102, 110]) = false := hv1
       have hu2 : (t1.text == [105, 102]) = false := hv2
       have hu3 : (t1.text == [99, 97, 115, 101]) = false := hv3
       have hu4 : (t1.text == [104, 97, 110, 100, 108, 101]) = false := hv4
       have hu5 : (t1.text == [115, 104, 97, 108, 108, 111, 119]) = false := hv5
       refine (druleOf6 _ t1.text hu0 hu1 hu2 hu3 hu4 hu5).mono ?_
       rintro en w' ⟨rfl, rfl⟩
       go_wp2_with fail
       refine (hSE _ b ts (by repeat (with_reducible (first | exact HR2.out | apply Dr.drew))) hn).mono ?_
       intro en w3 HD
       rcases hx3 : Sy.seqB z N E ts with f3 | ⟨y3, ts3⟩
       ·obtain ⟨rfl, HK3⟩ := HD.no hx3
        have HKE := hid ((show Kp b w _ by repeat (with_reducible (first | exact HKA2.out | apply Kp.drew))).trans HK3.out)
        go_wp2_with fail
        exact ⟨rfl, DRes.err (by simp [Sy.anyB, Sy.iteB_takes, Sy.bnd, HL1.out, hv0, hv1, hv2, hv3, hv4, hv5, hx3]) HKE.out⟩
       have H3 := hid hx3
       obtain ⟨a3, l3, c3, rfl, HKd3, HR3, HK3⟩ := HD.yes hx3
       clear hx3 HD
       have ht3 := HK3.out.size
       have HRS3 := hid ((show Blk _ w.heap.size [_, _, _, _, _] by repeat (with_reducible (first | exact HRS2.out | apply Blk.drew))).kp HK3.out (by omega))
       have HKA3 := hid ((show Kp b w _ by repeat (with_reducible (first | exact HKA2.out | apply Kp.drew))).trans HK3.out)
       obtain ⟨⟨u1_0, u1_1, u1_2, u1_3, u1_4⟩, u1_5, u1_6, u1_7, u1_8, u1_9⟩ := blk5 HRS3.out
       go_wp2_with fail
       refine bodyPost_ret (v := .agg #[.int .i64 y3.kind, .int .i64 y3.pos, .string ⟨y3.name.toArray⟩, .int .i64 y3.num, .slice a3 l3 c3]) (by simp [results, Tryz.results68, go_sem, u1_0, u1_1, u1_2, u1_3, u1_4]) rfl ?_
       exact dres_fin (lo := W0.heap.size) y3 ts3 (HKd3.out.weak (fun g hg _ => Nat.le_trans (by omega) hg)) HR3.out HKA3.out (by simp [Sy.anyB, Sy.iteB_takes, Sy.bnd, HL1.out, hv0, hv1, hv2, hv3, hv4, hv5, H3.out]) (by omega) (by omega) (by omega) _ _ _ _ rfl rfl rfl rfl _ _ _ _ _

open Go.RowKit

theorem Dr.expr {w : World} {b e d e2 : Nat} {z : Sy.Env} {ts : List Lx.Tk} (h : Dr w b z ts e d) : Dr (w.setCell ⟨b, 4, none⟩ (.int .i64 e2)) b z ts e2 d := by
 obtain ⟨hg, g, n, c, i, h1, h2, h3, h4, h5, h6, h7⟩ := h
 have hb2 := h1.set 4 (by simp [drVals]) (.int .i64 (e2 : Int))
 simp only [drVals, List.set_cons_succ, List.set_cons_zero] at hb2
 have hh : (w.setCell ⟨b, 4, none⟩ (.int .i64 e2)).heap[g]? = w.heap[g]? := Below.heap_setCell _ _ _ _ (show g ≠ b by omega)
 exact ⟨hg, g, n, c, i, hb2, h2, h3, h4, h5, fun j hj => (h6 j hj).of_heap hh, h7.of_heap hh⟩
theorem Dr.typ {w : World} {b e d d2 : Nat} {z : Sy.Env} {ts : List Lx.Tk} (h : Dr w b z ts e d) : Dr (w.setCell ⟨b, 5, none⟩ (.int .i64 d2)) b z ts e d2 := by
 obtain ⟨hg, g, n, c, i, h1, h2, h3, h4, h5, h6, h7⟩ := h
 have hb2 := h1.set 5 (by simp [drVals]) (.int .i64 (d2 : Int))
 simp only [drVals, List.set_cons_succ, List.set_cons_zero] at hb2
 have hh : (w.setCell ⟨b, 5, none⟩ (.int .i64 d2)).heap[g]? = w.heap[g]? := Below.heap_setCell _ _ _ _ (show g ≠ b by omega)
 exact ⟨hg, g, n, c, i, hb2, h2, h3, h4, h5, fun j hj => (h6 j hj).of_heap hh, h7.of_heap hh⟩
theorem Dr.counts {w : World} {b e d : Nat} {z : Sy.Env} {ts : List Lx.Tk} (h : Dr w b z ts e d) : (w.cell? ⟨b, 4, none⟩ = some (.int .i64 e) ∧ w.frozen? ⟨b, 4, none⟩ = false) ∧ (w.cell? ⟨b, 5, none⟩ = some (.int .i64 d) ∧ w.frozen? ⟨b, 5, none⟩ = false) := by
 obtain ⟨hg, g, n, c, i, h1, _⟩ := h
 exact ⟨h1 4 _ rfl, h1 5 _ rfl⟩

theorem dwithinE (N : Nat) (w : World) (b B e d : Nat) (z : Sy.Env) (ts : List Lx.Tk) (G : Sy.R Sy.Tr) (hc : e < 200) (h : Dr w b z ts e d) (hBc : w.cell? ⟨B, 0, none⟩ = some (.pointer (some ⟨b, 0, none⟩))) (hBl : B < w.heap.size) (hBb : B ≠ b)
  (hbody : ∀ W : World, Dr W b z ts (e + 1) d → W.cell? ⟨B, 0, none⟩ = some (.pointer (some ⟨b, 0, none⟩)) → B < W.heap.size → Calls Tryz.prog 68 #[.pointer (some ⟨B, 0, none⟩)] W fun en w' => DRes W b z G (e + 1) d en w') :
  Calls Tryz.prog 67 #[.pointer (some ⟨b, 0, none⟩), .pointer (some ⟨b, 4, none⟩), .func (Fn.func 68) #[] #[.pointer (some ⟨B, 0, none⟩)]] w fun en w' => DRes w b z (Sy.bnd (Sy.lookB z ts) fun _ _ => G) e d en w' := by
 have H := hid h
 have hbR : b < w.heap.size := h.lt
 have HBC := hid hBc
 have HBO := hid hbody
 clear h hbody hBc
 have he2 : ((e : Int) == 200) = false := by simp; omega
 go_enter Tryz.func67, Tryz.ntmps67
 go_wp2_with fail
 obtain ⟨W0, hW0, HI⟩ := jn1 H.out 24
 rw [hW0]
 clear hW0
 have hz0 := HI.out.size
 refine (dlook _ b z _ e d HI.out.rd).mono ?_
 intro en w1 HD
 rcases hl : Sy.lookB z ts with f1 | ⟨t, us⟩
 ·obtain ⟨rfl, HK1⟩ := HD.no hl
  have HKE := hid (HI.out.kp.trans HK1.out)
  go_wp2_with fail
  exact ⟨rfl, DRes.err (by simp [Sy.bnd, hl]) HKE.out⟩
 obtain ⟨rfl, HR1, HK1⟩ := HD.yes hl
 have hus := (look_ok hl).1
 subst hus
 dsimp only [tkV]
 have HL := hid hl
 clear hl HD
 obtain ⟨⟨e4, e5⟩, d4, d5⟩ := HR1.out.counts
 have hlt1 := HR1.out.lt
 have ht1 := HK1.out.size
 have hbn : ¬ b = w1.heap.size := by omega
 have HRS1 := hid (HI.out.one.kp HK1.out (by omega))
 have HKA1 := hid (HI.out.kp.trans HK1.out)
 have HB1 := hid (cell_kp HBC.out HKA1.out hBl hBb)
 have HTO := hid (Below.alloc (Below.refl w1.heap.size w1) (Nat.le_refl _) (.cells #[.int .i64 t.kind, .int .i64 t.pos, .string ⟨t.text.toArray⟩, .int .i64 t.num] 41))
 obtain ⟨W2, hW2⟩ : ∃ W2, (w1.setCell ⟨b, 4, none⟩ (.int .i64 ((e : Int) + 1))).alloc (.cells #[.int .i64 t.kind, .int .i64 t.pos, .string ⟨t.text.toArray⟩, .int .i64 t.num] 41) = W2 := ⟨_, rfl⟩
 have HR2 : Hid (Dr W2 b z us (e + 1) d) := by rw [Hid, ← hW2]; exact (HR1.out.expr).alloc _
 have HKA2 : Hid (Kp b w W2) := by rw [Hid, ← hW2]; exact (HKA1.out.set 4 _).alloc _
 have HK12 : Hid (Kp b w1 W2) := by rw [Hid, ← hW2]; exact ((Kp.refl b w1).set 4 _).alloc _
 have HRS2 := hid (HRS1.out.kp HK12.out (by omega))
 have HB2 := hid (cell_kp HBC.out HKA2.out hBl hBb)
 have hs2 : W2.heap.size = w1.heap.size + 1 := by rw [← hW2]; simp
 go_wp2_with fail
 try rw [hW2]
 clear hW2
 refine (HBO.out W2 HR2.out HB2.out (by omega)).mono ?_
 intro en w3 HD
 rcases hg : G with f3 | ⟨y3, ts3⟩
 ·obtain ⟨rfl, HK3⟩ := HD.no hg
  have HKE := hid (HKA2.out.trans HK3.out)
  go_wp2_with fail
  exact ⟨rfl, DRes.err (by simp [Sy.bnd, HL.out, hg]) HKE.out⟩
 obtain ⟨a3, l3, c3, rfl, HKd3, HR3, HK3⟩ := HD.yes hg
 have HG := hid hg
 clear hg HD
 have ht3 := HK3.out.size
 have HRS3 := hid (HRS2.out.kp HK3.out (by omega))
 have HKA3 := hid (HKA2.out.trans HK3.out)
 obtain ⟨⟨g4, g5⟩, k4, k5⟩ := HR3.out.counts
 obtain ⟨⟨u0, u1, u2, u3, u4⟩, u5, u6, u7, u8, u9⟩ := blk5 HRS3.out
 have hlw : w.heap.size < w3.heap.size := Blk.lt HRS3.out
 have hbn3 : ¬ b = w3.heap.size := by omega
 have hbl3 : b < w3.heap.size := by omega
 have hbw : ¬ b = w.heap.size := by omega
 have hwb : ¬ w.heap.size = b := by omega
 go_wp2_with fail
 refine bodyPost_ret (v := .agg #[.int .i64 y3.kind, .int .i64 y3.pos, .string ⟨y3.name.toArray⟩, .int .i64 y3.num, .slice a3 l3 c3]) (by simp [results, Tryz.results67, go_sem, u0, u1, u2, u3, u4, hlw, hbw, hwb]) rfl ?_
 refine DRes.alloc ?_ _
 exact dres_fin (lo := W0.heap.size) (W := w3.setCell ⟨b, 4, none⟩ (.int .i64 e)) y3 ts3 ((HKd3.out.weak (fun g hg _ => Nat.le_trans (by omega) hg)).carry (fun g hg _ => Below.heap_setCell _ _ _ _ (show g ≠ b by omega)) (fun g hg _ => hg)) HR3.out.expr (HKA3.out.set 4 _) (by simp [Sy.bnd, HL.out, HG.out]) (by omega) (by omega) (by omega) _ _ _ _ rfl rfl rfl rfl _ _ _ _ _

theorem dwithinDeepE (w : World) (b e d : Nat) (z : Sy.Env) (ts : List Lx.Tk) (fv : Value) (hc : e = 200) (h : Dr w b z ts e d) :
  Calls Tryz.prog 67 #[.pointer (some ⟨b, 0, none⟩), .pointer (some ⟨b, 4, none⟩), fv] w fun en w' => DRes w b z (Sy.bnd (Sy.lookB z ts) fun t _ => .error (5, t.pos)) e d en w' := by
 have H := hid h
 have hbR : b < w.heap.size := h.lt
 clear h
 have he2 : ((e : Int) == 200) = true := by simp; omega
 have hc2 : (e : Int) = 200 := by omega
 clear hc
 go_enter Tryz.func67, Tryz.ntmps67
 go_wp2_with fail
 obtain ⟨W0, hW0, HI⟩ := jn1 H.out 24
 rw [hW0]
 clear hW0
 have hz0 := HI.out.size
 refine (dlook _ b z _ e d HI.out.rd).mono ?_
 intro en w1 HD
 rcases hl : Sy.lookB z ts with f1 | ⟨t, us⟩
 ·obtain ⟨rfl, HK1⟩ := HD.no hl
  have HKE := hid (HI.out.kp.trans HK1.out)
  go_wp2_with fail
  exact ⟨rfl, DRes.err (by simp [Sy.bnd, hl]) HKE.out⟩
 obtain ⟨rfl, HR1, HK1⟩ := HD.yes hl
 dsimp only [tkV]
 have HL := hid hl
 clear hl HD
 obtain ⟨⟨e4, e5⟩, d4, d5⟩ := HR1.out.counts
 have hlt1 := HR1.out.lt
 have hbn : ¬ b = w1.heap.size := by omega
 have HKE := hid ((HI.out.kp.trans HK1.out).alloc (.cells #[.int .i64 t.kind, .int .i64 t.pos, .string ⟨t.text.toArray⟩, .int .i64 t.num] 41))
 go_wp2_with fail
 exact ⟨rfl, DRes.err (f := (5, t.pos)) (by simp [Sy.bnd, HL.out]) HKE.out⟩

theorem dwithinT (N : Nat) (w : World) (b B e d : Nat) (z : Sy.Env) (ts : List Lx.Tk) (G : Sy.R Sy.Tr) (hc : d < 200) (h : Dr w b z ts e d) (hBc : w.cell? ⟨B, 0, none⟩ = some (.pointer (some ⟨b, 0, none⟩))) (hBl : B < w.heap.size) (hBb : B ≠ b)
  (hbody : ∀ W : World, Dr W b z ts e (d + 1) → W.cell? ⟨B, 0, none⟩ = some (.pointer (some ⟨b, 0, none⟩)) → B < W.heap.size → Calls Tryz.prog 99 #[.pointer (some ⟨B, 0, none⟩)] W fun en w' => DRes W b z G e (d + 1) en w') :
  Calls Tryz.prog 67 #[.pointer (some ⟨b, 0, none⟩), .pointer (some ⟨b, 5, none⟩), .func (Fn.func 99) #[] #[.pointer (some ⟨B, 0, none⟩)]] w fun en w' => DRes w b z (Sy.bnd (Sy.lookB z ts) fun _ _ => G) e d en w' := by
 have H := hid h
 have hbR : b < w.heap.size := h.lt
 have HBC := hid hBc
 have HBO := hid hbody
 clear h hbody hBc
 have he2 : ((d : Int) == 200) = false := by simp; omega
 go_enter Tryz.func67, Tryz.ntmps67
 go_wp2_with fail
 obtain ⟨W0, hW0, HI⟩ := jn1 H.out 24
 rw [hW0]
 clear hW0
 have hz0 := HI.out.size
 refine (dlook _ b z _ e d HI.out.rd).mono ?_
 intro en w1 HD
 rcases hl : Sy.lookB z ts with f1 | ⟨t, us⟩
 ·obtain ⟨rfl, HK1⟩ := HD.no hl
  have HKE := hid (HI.out.kp.trans HK1.out)
  go_wp2_with fail
  exact ⟨rfl, DRes.err (by simp [Sy.bnd, hl]) HKE.out⟩
 obtain ⟨rfl, HR1, HK1⟩ := HD.yes hl
 have hus := (look_ok hl).1
 subst hus
 dsimp only [tkV]
 have HL := hid hl
 clear hl HD
 obtain ⟨⟨e4, e5⟩, d4, d5⟩ := HR1.out.counts
 have hlt1 := HR1.out.lt
 have ht1 := HK1.out.size
 have hbn : ¬ b = w1.heap.size := by omega
 have HRS1 := hid (HI.out.one.kp HK1.out (by omega))
 have HKA1 := hid (HI.out.kp.trans HK1.out)
 have HB1 := hid (cell_kp HBC.out HKA1.out hBl hBb)
 have HTO := hid (Below.alloc (Below.refl w1.heap.size w1) (Nat.le_refl _) (.cells #[.int .i64 t.kind, .int .i64 t.pos, .string ⟨t.text.toArray⟩, .int .i64 t.num] 41))
 obtain ⟨W2, hW2⟩ : ∃ W2, (w1.setCell ⟨b, 5, none⟩ (.int .i64 ((d : Int) + 1))).alloc (.cells #[.int .i64 t.kind, .int .i64 t.pos, .string ⟨t.text.toArray⟩, .int .i64 t.num] 41) = W2 := ⟨_, rfl⟩
 have HR2 : Hid (Dr W2 b z us e (d + 1)) := by rw [Hid, ← hW2]; exact (HR1.out.typ).alloc _
 have HKA2 : Hid (Kp b w W2) := by rw [Hid, ← hW2]; exact (HKA1.out.set 5 _).alloc _
 have HK12 : Hid (Kp b w1 W2) := by rw [Hid, ← hW2]; exact ((Kp.refl b w1).set 5 _).alloc _
 have HRS2 := hid (HRS1.out.kp HK12.out (by omega))
 have HB2 := hid (cell_kp HBC.out HKA2.out hBl hBb)
 have hs2 : W2.heap.size = w1.heap.size + 1 := by rw [← hW2]; simp
 go_wp2_with fail
 try rw [hW2]
 clear hW2
 refine (HBO.out W2 HR2.out HB2.out (by omega)).mono ?_
 intro en w3 HD
 rcases hg : G with f3 | ⟨y3, ts3⟩
 ·obtain ⟨rfl, HK3⟩ := HD.no hg
  have HKE := hid (HKA2.out.trans HK3.out)
  go_wp2_with fail
  exact ⟨rfl, DRes.err (by simp [Sy.bnd, HL.out, hg]) HKE.out⟩
 obtain ⟨a3, l3, c3, rfl, HKd3, HR3, HK3⟩ := HD.yes hg
 have HG := hid hg
 clear hg HD
 have ht3 := HK3.out.size
 have HRS3 := hid (HRS2.out.kp HK3.out (by omega))
 have HKA3 := hid (HKA2.out.trans HK3.out)
 obtain ⟨⟨g4, g5⟩, k4, k5⟩ := HR3.out.counts
 obtain ⟨⟨u0, u1, u2, u3, u4⟩, u5, u6, u7, u8, u9⟩ := blk5 HRS3.out
 have hlw : w.heap.size < w3.heap.size := Blk.lt HRS3.out
 have hbn3 : ¬ b = w3.heap.size := by omega
 have hbl3 : b < w3.heap.size := by omega
 have hbw : ¬ b = w.heap.size := by omega
 have hwb : ¬ w.heap.size = b := by omega
 go_wp2_with fail
 refine bodyPost_ret (v := .agg #[.int .i64 y3.kind, .int .i64 y3.pos, .string ⟨y3.name.toArray⟩, .int .i64 y3.num, .slice a3 l3 c3]) (by simp [results, Tryz.results67, go_sem, u0, u1, u2, u3, u4, hlw, hbw, hwb]) rfl ?_
 refine DRes.alloc ?_ _
 exact dres_fin (lo := W0.heap.size) (W := w3.setCell ⟨b, 5, none⟩ (.int .i64 d)) y3 ts3 ((HKd3.out.weak (fun g hg _ => Nat.le_trans (by omega) hg)).carry (fun g hg _ => Below.heap_setCell _ _ _ _ (show g ≠ b by omega)) (fun g hg _ => hg)) HR3.out.typ (HKA3.out.set 5 _) (by simp [Sy.bnd, HL.out, HG.out]) (by omega) (by omega) (by omega) _ _ _ _ rfl rfl rfl rfl _ _ _ _ _

theorem dwithinDeepT (w : World) (b e d : Nat) (z : Sy.Env) (ts : List Lx.Tk) (fv : Value) (hc : d = 200) (h : Dr w b z ts e d) :
  Calls Tryz.prog 67 #[.pointer (some ⟨b, 0, none⟩), .pointer (some ⟨b, 5, none⟩), fv] w fun en w' => DRes w b z (Sy.bnd (Sy.lookB z ts) fun t _ => .error (5, t.pos)) e d en w' := by
 have H := hid h
 have hbR : b < w.heap.size := h.lt
 clear h
 have he2 : ((d : Int) == 200) = true := by simp; omega
 have hc2 : (d : Int) = 200 := by omega
 clear hc
 go_enter Tryz.func67, Tryz.ntmps67
 go_wp2_with fail
 obtain ⟨W0, hW0, HI⟩ := jn1 H.out 24
 rw [hW0]
 clear hW0
 have hz0 := HI.out.size
 refine (dlook _ b z _ e d HI.out.rd).mono ?_
 intro en w1 HD
 rcases hl : Sy.lookB z ts with f1 | ⟨t, us⟩
 ·obtain ⟨rfl, HK1⟩ := HD.no hl
  have HKE := hid (HI.out.kp.trans HK1.out)
  go_wp2_with fail
  exact ⟨rfl, DRes.err (by simp [Sy.bnd, hl]) HKE.out⟩
 obtain ⟨rfl, HR1, HK1⟩ := HD.yes hl
 dsimp only [tkV]
 have HL := hid hl
 clear hl HD
 obtain ⟨⟨e4, e5⟩, d4, d5⟩ := HR1.out.counts
 have hlt1 := HR1.out.lt
 have hbn : ¬ b = w1.heap.size := by omega
 have HKE := hid ((HI.out.kp.trans HK1.out).alloc (.cells #[.int .i64 t.kind, .int .i64 t.pos, .string ⟨t.text.toArray⟩, .int .i64 t.num] 41))
 go_wp2_with fail
 exact ⟨rfl, DRes.err (f := (5, t.pos)) (by simp [Sy.bnd, HL.out]) HKE.out⟩

end Go.Proofs.YtoajnlhegallpaaGreatDoor
