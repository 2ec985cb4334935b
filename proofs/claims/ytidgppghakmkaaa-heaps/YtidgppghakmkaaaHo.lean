/-
  The program's marking: enter, next.
-/
import Derived.Test.YtidgppghakmkaaaHn
import Derived.Test.YtidgppghakmkaaaHe
set_option linter.unusedVariables false
set_option linter.unusedSimpArgs false
namespace Go.Proofs.Ytidgppghakmkaaa
open Go.RowKit Hp

set_option maxRecDepth 100000 in
set_option maxHeartbeats 4000000 in
theorem enter_any (w : World) (hb g N : Nat) (f : Nat → PC) (u : Nat) (H : HM w hb g N f u) (a : Nat) (ha : a < N) :
    Calls Try.prog 35 #[.pointer (some ⟨hb, 0, none⟩), .int .i64 a] w fun e w' => e = .returned (.tuple #[]) ∧ HM w' hb g N (Hp.upd f a ⟨3, (f a).kind, (f a).tag, (f a).size, 0⟩) u ∧ Ch (fun k => k = g) w w' := by
  obtain ⟨h0, h1, -⟩ := H.head
  obtain ⟨c0, -, -, -, c4⟩ := H.five ha
  have fz := H.fz
  have haN : (a : Int) < (N : Int) := by omega
  have hne := H.ne
  have H1 := H.set (k := 0) ⟨3, (f a).kind, (f a).tag, (f a).size, (f a).n⟩ ha (by omega) (fun j hj hk => by rcases (show j = 0 ∨ j = 1 ∨ j = 2 ∨ j = 3 ∨ j = 4 by omega) with rfl | rfl | rfl | rfl | rfl <;> first | rfl | exact absurd rfl hk)
  have H2 := H1.set (k := 4) ⟨3, (f a).kind, (f a).tag, (f a).size, 0⟩ ha (by omega) (fun j hj hk => by rcases (show j = 0 ∨ j = 1 ∨ j = 2 ∨ j = 3 ∨ j = 4 by omega) with rfl | rfl | rfl | rfl | rfl <;> first | (simp [cv, Hp.upd]; done) | exact absurd rfl hk)
  have e2 : Hp.upd (Hp.upd f a ⟨3, (f a).kind, (f a).tag, (f a).size, (f a).n⟩) a ⟨3, (f a).kind, (f a).tag, (f a).size, 0⟩ = Hp.upd f a ⟨3, (f a).kind, (f a).tag, (f a).size, 0⟩ := by
    funext x
    unfold Hp.upd
    split <;> rfl
  rw [e2] at H2
  have hc : Ch (fun k => k = g) w ((w.setCell ⟨g, a * 5 + 0, none⟩ (.int .u8 3)).setCell ⟨g, a * 5 + 4, none⟩ (.int .i64 0)) := ((Ch.refl (fun k => k = g) w).set (a := ⟨g, a * 5 + 0, none⟩) rfl _).set (a := ⟨g, a * 5 + 4, none⟩) rfl _
  change HM ((w.setCell ⟨g, a * 5 + 0, none⟩ (.int .u8 3)).setCell ⟨g, a * 5 + 4, none⟩ (.int .i64 0)) hb g N _ u at H2
  rw [Nat.add_zero] at H2 hc
  have HH := hid H2
  have HC := hid hc
  clear H H1 H2 hc e2
  go_enter Try.func35, Try.ntmps35
  go_region
  all_goals go_wp2
  all_goals
    go_end0
    exact ⟨rfl, HH.out.dr, HC.out.dr⟩

/-- What lies in the heap while one marks. -/
theorem lay_head {T : List Th} {f : Nat → PC} {s : Mk} (h : Lay T f (gM T s)) {i : Nat} {t : Th} (ht : T[i]? = some t) : f (ad T i) = ⟨if s.p i = none then 2 else 3, t.kind, t.tag, (t.l.length : Nat), ((s.p i).getD 0 : Nat)⟩ := by
  have := h i t ht 0 (Nat.zero_le _)
  rw [Nat.add_zero] at this
  rw [this]
  simp [gM, thOf_at ht]
theorem lay_lies {T : List Th} {f : Nat → PC} {s : Mk} (h : Lay T f (gM T s)) {i : Nat} {t : Th} (ht : T[i]? = some t) : firstF f (used T) ((ad T i : Nat) : Int) = f (ad T i) := by
  have h1 := ad_used ht
  have hs : t.size = t.l.length + 1 := rfl
  have h2 := lay_head h ht
  have h3 : 2 ≤ (f (ad T i)).is := by
    rw [h2]
    dsimp only
    split <;> decide
  unfold firstF liesF
  rw [Int.toNat_natCast, if_pos]
  simp
  exact ⟨by omega, h3⟩
/-- The number in the last part of a cell. -/
def mq (w : World) (g a : Nat) : Nat := match w.cell? ⟨g, a * 5 + 4, none⟩ with
  | some (.int _ n) => n.toNat
  | _ => 0
/-- What next has come to. -/
def NextPost (w : World) (hb g N : Nat) (T : List Th) (R : Nat → Prop) (p : Nat → Option Nat) (c : Nat) (r : List Nat) (t : Th) (e : Ending) (w' : World) : Prop :=
  ∃ f' q', HM w' hb g N f' (used T) ∧ Ch (fun k => k = g) w w' ∧ Inv T R ⟨setP p c (some q'), c :: r⟩ ∧
    ((e = .returned (.pointer none) ∧ q' = t.l.length ∧ Lay T f' (gM T ⟨setP p c (some q'), c :: r⟩)) ∨
     (∃ k u, e = .returned (.pointer (some ⟨g, (ad T c + (q' + 1)) * 5, none⟩)) ∧ q' < t.l.length ∧ Lay T f' (gM T ⟨setP p c (some (q' + 1)), c :: r⟩) ∧ (clOf T c q').ptr = true ∧ (clOf T c q').n = (ad T k : Nat) ∧ T[k]? = some u ∧ setP p c (some q') k = none))

set_option maxRecDepth 100000 in
set_option maxHeartbeats 8000000 in
theorem next_any (w : World) (hb g N : Nat) (T : List Th) (R : Nat → Prop) (p : Nat → Option Nat) (c : Nat) (r : List Nat) (t : Th) (q : Nat) (f : Nat → PC) (H : HM w hb g N f (used T)) (hL : Lay T f (gM T ⟨p, c :: r⟩)) (hI : Inv T R ⟨p, c :: r⟩) (hq : p c = some q) (ht : T[c]? = some t) (hwf : WF T) :
    Calls Try.prog 36 #[.pointer (some ⟨hb, 0, none⟩), .int .i64 (ad T c : Nat)] w (NextPost w hb g N T R p c r t) := by
  have hu := ad_used ht
  have hs : t.size = t.l.length + 1 := rfl
  have hle := H.le
  have hmx := H.max
  have hcr : c ∉ r := (List.nodup_cons.1 hI.nd).1
  have haN : ad T c < N := by omega
  have haI : ((ad T c : Nat) : Int) < (N : Int) := by omega
  obtain ⟨h0, h1, -⟩ := H.head
  have hst : Hid (∃ q1 f1, HM w hb g N f1 (used T) ∧ Ch (fun k => k = g) w w ∧ Lay T f1 (gM T ⟨setP p c (some q1), c :: r⟩) ∧ Inv T R ⟨setP p c (some q1), c :: r⟩) := by
    have e : setP p c (some q) = p := by
      funext x
      unfold setP
      split
      · subst_vars; exact hq.symm
      · rfl
    exact ⟨q, f, H, Ch.refl _ _, by rw [e]; exact hL, by rw [e]; exact hI⟩
  clear H hL hI hq
  go_enter Try.func36, Try.ntmps36
  go_wp2
  go_loopw [] (fun wr => Hid (∃ q1 f1, HM wr hb g N f1 (used T) ∧ Ch (fun k => k = g) w wr ∧ Lay T f1 (gM T ⟨setP p c (some q1), c :: r⟩) ∧ Inv T R ⟨setP p c (some q1), c :: r⟩)) (fun wr => t.l.length - mq wr g (ad T c))
  case atStart => exact hst
  case round =>
    clear hst h0 h1
    obtain ⟨q1, f1, H1, hC1, hL1, hI1⟩ := hrel.out
    clear hrel
    have hhd := lay_head hL1 ht
    simp only [setP_same] at hhd
    obtain ⟨-, -, -, c3, c4⟩ := H1.five haN
    rw [hhd] at c3 c4
    dsimp only [Option.getD_some] at c3 c4
    have hmq : mq wr g (ad T c) = q1 := by simp [mq, c4]
    have hlen : t.l.length ≤ 1000000 := by omega
    have hql : q1 ≤ t.l.length := by
      obtain ⟨u, x, h1, h2, h3⟩ := hI1.ms c List.mem_cons_self
      obtain rfl := Option.some.inj (ht.symm.trans h1)
      have : some q1 = some x := (setP_same p c (some q1)).symm.trans h2
      cases this
      exact h3
    have hw3 : IntKind.i64.wrap ((t.l.length : Nat) : Int) = ((t.l.length : Nat) : Int) := IntWalk.i64_in _ (by omega)
    have HHd := hid hhd
    clear hhd
    replace H1 := hid H1
    replace hC1 := hid hC1
    replace hL1 := hid hL1
    replace hI1 := hid hI1
    by_cases hlt : q1 < t.l.length
    · have hltI : (q1 : Int) < ((t.l.length : Nat) : Int) := by omega
      go_wp2
      go_quiet (fail)
      have HV : HM (wr.drewN nq) hb g N f1 (used T) := ⟨H1.out.hd, H1.out.row, H1.out.ne, H1.out.le, H1.out.max⟩
      have hCV : Ch (fun k => k = g) w (wr.drewN nq) := ⟨hC1.out.size, hC1.out.same, hC1.out.eo⟩
      clear c3 c4 H1 hC1
      generalize wr.drewN nq = V at HV hCV ⊢
      have hw1 : IntKind.i64.wrap ((q1 : Int) + 1) = ((q1 + 1 : Nat) : Int) := by rw [IntWalk.i64_in _ (by omega)]; omega
      have fz := HV.fz (ad T c * 5 + 4)
      obtain ⟨-, -, -, -, c4⟩ := HV.five haN
      rw [HHd.out] at c4
      dsimp only at c4
      -- the field is gone through
      have H2 := HV.set (k := 4) ⟨3, t.kind, t.tag, (t.l.length : Nat), ((q1 + 1 : Nat) : Int)⟩ haN (by omega) (fun j hj hk => by rw [HHd.out]; rcases (show j = 0 ∨ j = 1 ∨ j = 2 ∨ j = 3 ∨ j = 4 by omega) with rfl | rfl | rfl | rfl | rfl <;> first | (simp [cv]; done) | exact absurd rfl hk)
      have hL2 : Lay T (Hp.upd f1 (ad T c) ⟨3, t.kind, t.tag, (t.l.length : Nat), ((q1 + 1 : Nat) : Int)⟩) (gM T ⟨setP p c (some (q1 + 1)), c :: r⟩) := by
        have hu := hL1.out.upd (k := 0) ht (Nat.zero_le _) (headC T c 3 ((q1 + 1 : Nat) : Int))
        rw [Nat.add_zero] at hu
        have e1 : headC T c 3 ((q1 + 1 : Nat) : Int) = ⟨3, t.kind, t.tag, (t.l.length : Nat), ((q1 + 1 : Nat) : Int)⟩ := by simp [headC, thOf_at ht]
        rw [e1] at hu
        refine hu.as (fun i v hv m hm => ?_)
        rw [← e1, gM_adv (setP_same p c (some q1)) hcr]
        unfold adv
        rw [setP_set]
      change HM (V.setCell ⟨g, ad T c * 5 + 4, none⟩ (.int .i64 ((q1 + 1 : Nat) : Int))) hb g N _ (used T) at H2
      have hC2 : Ch (fun k => k = g) w (V.setCell ⟨g, ad T c * 5 + 4, none⟩ (.int .i64 ((q1 + 1 : Nat) : Int))) := hCV.set (a := ⟨g, ad T c * 5 + 4, none⟩) rfl _
      generalize hf2 : Hp.upd f1 (ad T c) ⟨3, t.kind, t.tag, (t.l.length : Nat), ((q1 + 1 : Nat) : Int)⟩ = f2 at H2 hL2
      have hfa : (f2 (ad T c)).n = ((q1 + 1 : Nat) : Int) := by rw [← hf2]; simp [Hp.upd]
      -- what the field says
      have hfi : f2 (ad T c + (q1 + 1)) = field (clOf T c q1) (clOf T c q1).n := by
        have := hL2 c t ht (q1 + 1) (by omega)
        rw [this]
        simp only [gM, List.tail_cons, ov_none hcr, Option.getD_none]
      have hbig : ad T c + (q1 + 1) < N := by omega
      have HLast := last_any (V.setCell ⟨g, ad T c * 5 + 4, none⟩ (.int .i64 ((q1 + 1 : Nat) : Int))) hb g N f2 (used T) H2 (ad T c) (q1 + 1) haN hfa hbig
      have HH2 := hid H2
      have HL2 := hid hL2
      have HC2 := hid hC2
      clear hf2 hL1 H2 hL2 hC2 HV hCV hfa
      have hadv : ∀ (hx : (clOf T c q1).ptr = true → ∀ k, Is T (clOf T c q1).n k → setP p c (some q1) k ≠ none ∨ k = c), Inv T R ⟨setP p c (some (q1 + 1)), c :: r⟩ := fun hx => by
        have := hI1.out.adv (setP_same p c (some q1)) ht hlt hx
        unfold adv at this
        rw [setP_set] at this
        exact this
      have HAdv := hid hadv
      clear hadv
      have HFi := hid hfi
      clear hfi
      go_upto_region 5 with (go_at_call 37; refine HLast.mono ?_; clear HLast; rintro e w3 ⟨rfl, hc3⟩)
      have H3 := HH2.out.keep hc3
      have hC3 : Ch (fun k => k = g) w w3 := HC2.out.trans (hc3.mono (fun _ h => h.elim)) (fun _ h => .inl h)
      obtain ⟨d0, -, -, -, d4⟩ := H3.five hbig
      rw [HFi.out] at d0 d4
      clear HH2 HC2 hc3 c4 fz
      cases hpt : (clOf T c q1).ptr with
      | false =>
        simp only [field, hpt] at d0 d4
        have hm3 : mq w3 g (ad T c) = q1 + 1 := by
          obtain ⟨-, -, -, -, x4⟩ := H3.five haN
          have := lay_head HL2.out ht
          simp only [setP_same] at this
          rw [this] at x4
          simp [mq, x4]
        replace H3 := hid H3
        replace hC3 := hid hC3
        have hpt' := hid hpt
        clear hpt
        go_wp2
        go_roundw
        case rel => exact ⟨q1 + 1, f2, H3.out, hC3.out, HL2.out, HAdv.out (fun h => by rw [hpt'.out] at h; cases h)⟩
        case measure => rw [hm3, hmq]; omega
      | true =>
        have hmem : clOf T c q1 ∈ t.l := by
          rw [clOf_at ht]
          simp [List.getD, hlt]
        obtain ⟨k, v, hv, hkn⟩ := hwf c t ht _ hmem hpt
        simp only [field, hpt, if_true] at d0 d4
        rw [hkn] at d4
        have HF := first_any w3 hb g N f2 (used T) H3 ((ad T k : Nat) : Int)
        rw [lay_lies HL2.out hv, lay_head HL2.out hv] at HF
        unfold pcV at HF
        dsimp only at HF
        have hm3 : mq w3 g (ad T c) = q1 + 1 := by
          obtain ⟨-, -, -, -, x4⟩ := H3.five haN
          have := lay_head HL2.out ht
          simp only [setP_same] at this
          rw [this] at x4
          simp [mq, x4]
        have hfd : ∀ (a b c d e : Int) (W : World), Sem.run Try.prog (Instr.field 61 (.agg #[.int .u8 a, .int .u8 b, .int .u16 c, .int .u32 d, .int .i64 e]) 0) W = .ok (.int .u8 a) W := fun a b c d e W => by kernel_rfl
        have hpt' := hid hpt
        have hkn' := hid hkn
        have hwf' := hid hwf
        replace hC3 := hid hC3
        clear hpt hkn hwf hmem
        cases hk : setP p c (some (q1 + 1)) k with
        | none =>
          have hk1 : setP p c (some q1) k = none := by
            by_cases e : k = c
            · subst e; rw [setP_same] at hk; cases hk
            · rw [setP_other _ _ e] at hk ⊢; exact hk
          simp only [hk, if_true, Option.getD_none] at HF
          replace H3 := hid H3
          go_wp2_with (go_at_call 34; refine HF.mono ?_; clear HF; rintro e w4 ⟨rfl, hc4⟩; replace hc4 := hid hc4)
          go_ret
          exact ⟨f2, q1, H3.out.keep hc4.out, hC3.out.trans (hc4.out.mono (fun _ h => h.elim)) (fun _ h => .inl h), hI1.out, .inr ⟨k, v, rfl, hlt, HL2.out, hpt'.out, hkn'.out, hv, hk1⟩⟩
        | some y =>
          have hk1 : setP p c (some q1) k ≠ none ∨ k = c := by
            by_cases e : k = c
            · exact .inr e
            · left; rw [setP_other _ _ e] at hk ⊢; rw [hk]; simp
          simp only [hk, reduceCtorEq, if_false, Option.getD_some] at HF
          replace H3 := hid H3
          go_wp2_with (go_at_call 34; refine HF.mono ?_; clear HF; rintro e w4 ⟨rfl, hc4⟩
                       have hm4 : mq w4 g (ad T c) = q1 + 1 := by rw [← hm3]; unfold mq; rw [hc4.cell (p := ⟨g, ad T c * 5 + 4, none⟩) (Array.getElem?_eq_some_iff.1 H3.out.row).1 (fun h => h)]
                       replace hc4 := hid hc4)
          go_roundw
          case rel => exact ⟨q1 + 1, f2, H3.out.keep hc4.out, hC3.out.trans (hc4.out.mono (fun _ h => h.elim)) (fun _ h => .inl h), HL2.out, HAdv.out (fun _ k' hk' => by rw [hkn'.out] at hk'; rw [hk'.one ⟨v, hv, rfl⟩]; exact hk1)⟩
          case measure => rw [hm4, hmq]; omega
    · have hge : ¬ ((q1 : Int) < ((t.l.length : Nat) : Int)) := by omega
      obtain rfl : q1 = t.l.length := by omega
      go_wp2
      go_quiet (fail)
      go_wp2
      go_ret
      exact ⟨f1, t.l.length, ⟨H1.out.hd, H1.out.row, H1.out.ne, H1.out.le, H1.out.max⟩, ⟨hC1.out.size, hC1.out.same, hC1.out.eo⟩, hI1.out, .inl ⟨rfl, rfl, hL1.out⟩⟩
end Go.Proofs.Ytidgppghakmkaaa
