/-
  The program's marking: mark.
-/
import Derived.Test.YtidgppghakmkaaaHo
set_option linter.unusedVariables false
set_option linter.unusedSimpArgs false
namespace Go.Proofs.Ytidgppghakmkaaa
open Go.RowKit Hp

theorem wp_loop_desc {P : Program} {c : Code} {Q : Exit → Act → World → Prop} (I : Nat → Act → World → Prop) (h : ∀ n a w, I n a w → c.wp P (Exit.then (fun a' w' => ∃ m, m < n ∧ I m a' w') Q) a w) {n : Nat} {a : Act} {w : World} (h0 : I n a w) : (Code.loop c).wp P Q a w := by
  have key : ∀ N n a w, n < N → I n a w → Code.rounds P c Q N a w := by
    intro N
    induction N with
    | zero => intro n a w hn; omega
    | succ N ih =>
      intro n a w hn hI
      rw [rounds_succ]
      refine wp_mono (h n a w hI) (fun e a' w' he => ?_)
      cases e with
      | normal =>
        obtain ⟨m, hm, hI'⟩ := he
        exact ih m a' w' (by omega) hI'
      | exit id => exact he
      | goto l => exact he
      | ret => exact he
      | panic ch => exact he
      | outgrown => exact he
  exact wp_loop_rounds (n + 1) (key (n + 1) n a w (by omega) h0)
set_option maxRecDepth 100000 in
theorem list_openM (l : List Value) (h : l.length = 41) : ∃ F : Nat → Value, l = [F 0, F 1, F 2, F 3, F 4, F 5, F 6, F 7, F 8, F 9, F 10, F 11, F 12, F 13, F 14, F 15, F 16, F 17, F 18, F 19, F 20, F 21, F 22, F 23, F 24, F 25, F 26, F 27, F 28, F 29, F 30, F 31, F 32, F 33, F 34, F 35, F 36, F 37, F 38, F 39, F 40] ∧ ∀ i v, l[i]? = some v → F i = v := by
  refine ⟨fun i => l.getD i undef, ?_, fun i v hv => by simp [List.getD, hv]⟩
  have e : l = (List.range 41).map (fun i => l.getD i undef) := by
    apply List.ext_getElem?
    intro i
    by_cases hi : i < l.length
    · simp [List.getElem?_range (show i < 41 by omega), List.getD, hi]
    · rw [List.getElem?_eq_none (by omega), List.getElem?_eq_none (by simp; omega)]
  exact e
theorem act_openM {a : Act} (h : a.tmps.size = 41) (hd : a.defers = []) : ∃ F : Nat → Value, a = ⟨#[F 0, F 1, F 2, F 3, F 4, F 5, F 6, F 7, F 8, F 9, F 10, F 11, F 12, F 13, F 14, F 15, F 16, F 17, F 18, F 19, F 20, F 21, F 22, F 23, F 24, F 25, F 26, F 27, F 28, F 29, F 30, F 31, F 32, F 33, F 34, F 35, F 36, F 37, F 38, F 39, F 40], []⟩ ∧ ∀ i v, a.tmps[i]? = some v → F i = v := by
  obtain ⟨⟨l⟩, d⟩ := a
  obtain rfl : d = [] := hd
  obtain ⟨F, h1, h2⟩ := list_openM l (by simpa using h)
  exact ⟨F, by rw [← h1], fun i v hv => h2 i v (by simpa using hv)⟩

theorem NextPost.val {w : World} {hb g N : Nat} {T : List Th} {R : Nat → Prop} {p : Nat → Option Nat} {c : Nat} {r : List Nat} {t : Th} {e : Ending} {w' : World} (h : NextPost w hb g N T R p c r t e w') :
    ∃ v, e = .returned v ∧ Hid (∃ f' q', HM w' hb g N f' (used T) ∧ Ch (fun k => k = g) w w' ∧ Hp.Inv T R ⟨setP p c (some q'), c :: r⟩ ∧
    ((v = .pointer none ∧ q' = t.l.length ∧ Lay T f' (gM T ⟨setP p c (some q'), c :: r⟩)) ∨
     (∃ k u, v = .pointer (some ⟨g, (ad T c + (q' + 1)) * 5, none⟩) ∧ q' < t.l.length ∧ Lay T f' (gM T ⟨setP p c (some (q' + 1)), c :: r⟩) ∧ (clOf T c q').ptr = true ∧ (clOf T c q').n = (ad T k : Nat) ∧ T[k]? = some u ∧ setP p c (some q') k = none))) := by
  obtain ⟨f', q', h1, h2, h3, h4⟩ := h
  rcases h4 with ⟨rfl, h5, h6⟩ | ⟨k, u, rfl, h5⟩
  · exact ⟨_, rfl, f', q', h1, h2, h3, .inl ⟨rfl, h5, h6⟩⟩
  · exact ⟨_, rfl, f', q', h1, h2, h3, .inr ⟨k, u, rfl, h5⟩⟩
/-- The frame and the memory while one marks. -/
structure MkI (w : World) (hb g N : Nat) (T : List Th) (R : Nat → Prop) (p0 : Nat → Option Nat) (k0 : Nat) (n : Nat) (a : Act) (wr : World) : Prop where
  sz : a.tmps.size = 41
  df : a.defers = []
  s0 : a.tmps[0]? = some (.pointer (some ⟨hb, 0, none⟩))
  st : ∃ p c r f, a.tmps[1]? = some (.int .i64 (ad T c : Nat)) ∧ a.tmps[4]? = some (.int .i64 (fromOf T r)) ∧ HM wr hb g N f (used T) ∧ Lay T f (gM T ⟨p, c :: r⟩) ∧ Inv T R ⟨p, c :: r⟩ ∧ (∀ i, p0 i ≠ none → p i ≠ none) ∧ p k0 ≠ none ∧ left T ⟨p, c :: r⟩ = n
  ch : Ch (fun k => k = g) w wr

set_option maxRecDepth 100000 in
set_option maxHeartbeats 8000000 in
theorem mark_any (w : World) (hb g N : Nat) (T : List Th) (R : Nat → Prop) (p : Nat → Option Nat) (k : Nat) (t : Th) (f : Nat → PC) (H : HM w hb g N f (used T)) (hL : Lay T f (gM T ⟨p, []⟩)) (hI : Inv T R ⟨p, []⟩) (hk : p k = none) (ht : T[k]? = some t) (hwf : WF T) (hR : R k) (hRc : ∀ i u j m, R i → T[i]? = some u → j < u.l.length → (clOf T i j).ptr = true → Is T (clOf T i j).n m → R m) :
    Calls Try.prog 32 #[.pointer (some ⟨hb, 0, none⟩), .int .i64 (ad T k : Nat)] w fun e w' => e = .returned (.tuple #[]) ∧ (∃ f' p', HM w' hb g N f' (used T) ∧ Lay T f' (gM T ⟨p', []⟩) ∧ Inv T R ⟨p', []⟩ ∧ (∀ i, p i ≠ none → p' i ≠ none) ∧ p' k ≠ none) ∧ Ch (fun k => k = g) w w' := by
  have hu := ad_used ht
  have hs : t.size = t.l.length + 1 := rfl
  have hle := H.le
  have haN : ad T k < N := by omega
  have hhd := lay_head hL ht
  simp only [hk, if_true, Option.getD_none] at hhd
  have HE := enter_any w hb g N f (used T) H (ad T k) haN
  have hL1 : Lay T (Hp.upd f (ad T k) ⟨3, (f (ad T k)).kind, (f (ad T k)).tag, (f (ad T k)).size, 0⟩) (gM T ⟨setP p k (some 0), [k]⟩) := by
    have h1 := hL.upd (k := 0) ht (Nat.zero_le _) (headC T k 3 0)
    rw [Nat.add_zero] at h1
    have e1 : headC T k 3 0 = ⟨3, (f (ad T k)).kind, (f (ad T k)).tag, (f (ad T k)).size, 0⟩ := by rw [hhd]; simp [headC, thOf_at ht]
    rw [← e1]
    exact h1.as (fun i v hv m hm => gM_start hk i m)
  have hI1 := hI.start hk ht hR
  have hsub : ∀ i, p i ≠ none → setP p k (some 0) i ≠ none := fun i hi => by
    by_cases e : i = k
    · subst e; rw [setP_same]; simp
    · rw [setP_other _ _ e]; exact hi
  have hk0 : setP p k (some 0) k ≠ none := by rw [setP_same]; simp
  generalize Hp.upd f (ad T k) ⟨3, (f (ad T k)).kind, (f (ad T k)).tag, (f (ad T k)).size, 0⟩ = f1 at HE hL1
  have ST := hid (And.intro hL1 (And.intro hI1 (And.intro hsub hk0)))
  clear hL1 hI1 hsub hk0 hL hI hhd H
  go_enter Try.func32, Try.ntmps32
  go_upto_region 2 with (go_at_call 35; refine HE.mono ?_; clear HE; rintro e w1 ⟨rfl, hH1, hc1⟩)
  refine wp_loop_desc (MkI w hb g N T R p k) ?_ (n := left T ⟨setP p k (some 0), [k]⟩) ⟨rfl, rfl, rfl, ⟨_, k, [], f1, rfl, rfl, hH1, ST.out.1, ST.out.2.1, ST.out.2.2.1, ST.out.2.2.2, rfl⟩, hc1⟩
  clear ST hH1 hc1
  intro n a wr hM
  obtain ⟨sz, df, s0, ⟨p1, c, r, f2, s1, s4, H2, hL2, hI2, hsub, hk1, hn⟩, hC⟩ := hM
  obtain ⟨u, q, hu1, hq1, hql⟩ := hI2.ms c List.mem_cons_self
  have HNx := next_any wr hb g N T R p1 c r u q f2 H2 hL2 hI2 hq1 hu1 hwf
  obtain ⟨F, rfl, hF⟩ := act_openM sz df
  have e0 := hF 0 _ s0
  have e1 := hF 1 _ s1
  have e4 := hF 4 _ s4
  rw [e0, e1, e4]
  clear e0 e1 e4 hF s0 s1 s4 sz df
  replace hC := hid hC
  have HS := hid (And.intro hsub (And.intro hk1 hn))
  clear hsub hk1 hn
  have hwf' := hid hwf
  have hRc' := hid hRc
  clear hwf hRc H2 hL2 hI2
  replace HNx := HNx.mono (fun e w' h => h.val)
  go_upto_region 3 with (go_at_call 36; refine HNx.mono ?_; clear HNx; rintro e w2 ⟨v, rfl, hv⟩)
  obtain ⟨f3, q3, H3, hC3, hI3, hcase⟩ := hv.out
  clear hv
  have hsub := HS.out.1
  have hk1 := HS.out.2.1
  have hn := HS.out.2.2
  have hne3 : ∀ i, p1 i ≠ none → setP p1 c (some q3) i ≠ none := fun i hi => by
    by_cases e : i = c
    · subst e; rw [setP_same]; simp
    · rw [setP_other _ _ e]; exact hi
  have hleft : left T ⟨setP p1 c (some q3), c :: r⟩ = n := by
    rw [← hn]
    unfold left
    rw [filter_same hq1]
  rcases hcase with ⟨rfl, rfl, hL3⟩ | ⟨k2, u2, rfl, hql3, hL3, hpt3, hn3, hu3, hk3⟩
  · cases r with
    | nil =>
      have hL4 : Lay T f3 (gM T ⟨setP p1 c (some u.l.length), []⟩) := hL3.as (fun i _ _ m _ => gM_end i m)
      have hI4 := hI3.done hu1 (setP_same _ _ _)
      have fin : Hid ((∃ f' p', HM w2 hb g N f' (used T) ∧ Lay T f' (gM T ⟨p', []⟩) ∧ Hp.Inv T R ⟨p', []⟩ ∧ (∀ i, p i ≠ none → p' i ≠ none) ∧ p' k ≠ none) ∧ Ch (fun k => k = g) w w2) := ⟨⟨f3, _, H3, hL4, hI4, fun i hi => hne3 i (hsub i hi), hne3 k hk1⟩, hC.out.trans hC3 (fun _ h => .inl h)⟩
      clear hL4 hI4 hL3 hI3 H3 hC3 hC HS hwf' hRc' hsub hk1 hn hne3 hleft
      unfold fromOf
      go_wp2
      refine bodyPost_ret (results_none rfl _ _ _) rfl ?_
      exact ⟨rfl, fin.out⟩
    | cons b r' =>
      obtain ⟨qb, hb1, hb2, hb3⟩ := hI3.ch c b r' [] rfl
      have hbc : b ≠ c := fun e => (List.nodup_cons.1 hI3.nd).1 (by rw [e]; exact List.mem_cons_self)
      have hbr : b ∉ r' := (List.nodup_cons.1 (List.nodup_cons.1 hI3.nd).2).1
      obtain ⟨ub, xb, hub, hxb, hxl⟩ := hI3.ms b (List.mem_cons_of_mem _ List.mem_cons_self)
      obtain rfl : qb + 1 = xb := Option.some.inj (hb1.symm.trans hxb)
      have hub2 := ad_used hub
      have hsb : ub.size = ub.l.length + 1 := rfl
      have hbN : ad T b < N := by omega
      have hbig : ad T b + (qb + 1) < N := by omega
      have hhb := lay_head hL3 hub
      have hfb : (f3 (ad T b)).n = ((qb + 1 : Nat) : Int) := by
        rw [hhb]
        show (((setP p1 c (some u.l.length) b).getD 0 : Nat) : Int) = _
        rw [show setP p1 c (some u.l.length) b = some (qb + 1) from hb1]
        rfl
      have hfi : f3 (ad T b + (qb + 1)) = field (clOf T b qb) (fromOf T r') := by
        have := hL3 b ub hub (qb + 1) hxl
        rw [this]
        simp only [gM, List.tail_cons]
        rw [ov_cons, if_pos ⟨rfl, hb1⟩]
        rfl
      have HLast := last_any w2 hb g N f3 (used T) H3 (ad T b) (qb + 1) hbN hfb hbig
      have hL4 : Lay T (Hp.upd f3 (ad T b + (qb + 1)) (field (clOf T b qb) (ad T c : Nat))) (gM T ⟨setP p1 c (some u.l.length), b :: r'⟩) := (hL3.upd hub hxl _).as (fun i v hv m hm => gM_pop hb1 hb3 hbr i m)
      have hI4 := hI3.pop hu1 (setP_same _ _ _)
      have hlf : left T ⟨setP p1 c (some u.l.length), b :: r'⟩ < n := by
        rw [← hleft]
        unfold left
        simp only [List.length_cons]
        omega
      have FIN := hid (And.intro hL4 (And.intro hI4 (And.intro hlf (And.intro (fun i hi => hne3 i (hsub i hi)) (hne3 k hk1)))))
      have hfrom : ¬ (((ad T b : Nat) : Int) = -1) := by omega
      have HFi := hid hfi
      have HH3 := hid H3
      have HC3 := hid (hC.out.trans hC3 (fun _ h => .inl h))
      clear hL4 hI4 hlf hL3 hI3 H3 hC3 hC HS hwf' hRc' hsub hk1 hn hne3 hleft hhb hfb hfi hb1 hb2 hb3 hxb hxl
      unfold fromOf
      go_upto_region 8 with (go_at_call 37; refine HLast.mono ?_; clear HLast; rintro e w3 ⟨rfl, hc3⟩)
      have H4 := HH3.out.keep hc3
      have hC4 := HC3.out.trans (hc3.mono (fun _ h => h.elim)) (fun _ h => .inl h)
      obtain ⟨-, -, -, -, d4⟩ := H4.five hbig
      have fz := H4.fz ((ad T b + (qb + 1)) * 5 + 4)
      rw [HFi.out] at d4
      have H5 := H4.set (k := 4) (field (clOf T b qb) (ad T c : Nat)) hbig (by omega) (fun j hj hk => by rw [HFi.out]; rcases (show j = 0 ∨ j = 1 ∨ j = 2 ∨ j = 3 ∨ j = 4 by omega) with rfl | rfl | rfl | rfl | rfl <;> first | rfl | exact absurd rfl hk)
      change HM (w3.setCell ⟨g, (ad T b + (qb + 1)) * 5 + 4, none⟩ (.int .i64 (ad T c : Nat))) hb g N _ (used T) at H5
      have hC5 : Ch (fun k => k = g) w (w3.setCell ⟨g, (ad T b + (qb + 1)) * 5 + 4, none⟩ (.int .i64 (ad T c : Nat))) := hC4.set (a := ⟨g, (ad T b + (qb + 1)) * 5 + 4, none⟩) rfl _
      replace H5 := hid H5
      replace hC5 := hid hC5
      clear H4 hC4 HH3 HC3 hc3
      simp only [field] at d4
      go_region
      all_goals go_wp2
      exact ⟨_, FIN.out.2.2.1, ⟨rfl, rfl, rfl, ⟨_, b, r', _, rfl, rfl, H5.out.dr, FIN.out.1, FIN.out.2.1, FIN.out.2.2.2.1, FIN.out.2.2.2.2, rfl⟩, hC5.out.dr⟩⟩
  · have hkl : k2 ∉ c :: r := fun e => by
      obtain ⟨_, x, _, h2, _⟩ := hI3.ms k2 e
      rw [show (⟨setP p1 c (some q3), c :: r⟩ : Mk).p k2 = setP p1 c (some q3) k2 from rfl, hk3] at h2
      cases h2
    have hkc : k2 ≠ c := fun e => hkl (by rw [e]; exact List.mem_cons_self)
    have hkr : k2 ∉ r := fun e => hkl (List.mem_cons_of_mem _ e)
    have hcr : c ∉ r := (List.nodup_cons.1 hI3.nd).1
    obtain ⟨_, hcu, _, hRcc⟩ := hI3.mr c q3 (setP_same _ _ _)
    have hRk : R k2 := hRc'.out c u q3 k2 hRcc hu1 hql3 hpt3 ⟨u2, hu3, hn3⟩
    have hI4 := hI3.push2 (setP_same p1 c (some q3)) hk3 hu1 hql3 hu3 hpt3 hn3 hRk
    rw [setP_set] at hI4
    have hk4 : setP p1 c (some (q3 + 1)) k2 = none := by rw [setP_other _ _ hkc] at hk3 ⊢; exact hk3
    have huc := ad_used hu1
    have hsc : u.size = u.l.length + 1 := rfl
    have huk := ad_used hu3
    have hsk : u2.size = u2.l.length + 1 := rfl
    have hbig : ad T c + (q3 + 1) < N := by omega
    have hkN : ad T k2 < N := by omega
    have hhk := lay_head hL3 hu3
    simp only [hk4, if_true, Option.getD_none] at hhk
    have hfi : f3 (ad T c + (q3 + 1)) = field (clOf T c q3) (clOf T c q3).n := by
      have := hL3 c u hu1 (q3 + 1) (by omega)
      rw [this]
      simp only [gM, List.tail_cons, ov_none hcr, Option.getD_none]
    have hne4 : ∀ i, p1 i ≠ none → setP (setP p1 c (some (q3 + 1))) k2 (some 0) i ≠ none := fun i hi => by
      by_cases e : i = k2
      · subst e; rw [setP_same]; simp
      · rw [setP_other _ _ e]
        by_cases e2 : i = c
        · subst e2; rw [setP_same]; simp
        · rw [setP_other _ _ e2]; exact hi
    have hlf : left T ⟨setP (setP p1 c (some (q3 + 1))) k2 (some 0), k2 :: c :: r⟩ < n := by
      rw [← hn]
      unfold left
      have h1 := filter_set hk4 (List.getElem?_eq_some_iff.1 hu3).1 0
      rw [filter_same (n := T.length) hq1 (q3 + 1)] at h1
      simp only [List.length_cons]
      omega
    have hL4 : Lay T (Hp.upd (Hp.upd f3 (ad T c + (q3 + 1)) (field (clOf T c q3) (fromOf T r))) (ad T k2) (headC T k2 3 0)) (gM T ⟨setP (setP p1 c (some (q3 + 1))) k2 (some 0), k2 :: c :: r⟩) := by
      have h1 := (hL3.upd hu1 (show q3 + 1 ≤ u.l.length by omega) (field (clOf T c q3) (fromOf T r))).upd (k := 0) hu3 (Nat.zero_le _) (headC T k2 3 0)
      rw [Nat.add_zero] at h1
      exact h1.as (fun i v hv m hm => gM_push (setP_same p1 c (some (q3 + 1))) hcr hk4 hkc hkr i m)
    have hne5 : ad T k2 ≠ ad T c + (q3 + 1) := fun e => by
      have := (pos_inj (k := 0) (m := q3 + 1) hu3 hu1 (Nat.zero_le _) (by omega) (by omega)).1
      exact hkc this
    have hfk : Hp.upd f3 (ad T c + (q3 + 1)) (field (clOf T c q3) (fromOf T r)) (ad T k2) = ⟨2, u2.kind, u2.tag, (u2.l.length : Nat), 0⟩ := by
      unfold Hp.upd
      rw [if_neg hne5, hhk]
      rfl
    have ehk : headC T k2 3 0 = ⟨3, u2.kind, u2.tag, (u2.l.length : Nat), 0⟩ := by simp [headC, thOf_at hu3]
    rw [ehk] at hL4
    obtain ⟨-, -, -, -, d4⟩ := H3.five hbig
    have fz := H3.fz ((ad T c + (q3 + 1)) * 5 + 4)
    rw [hfi] at d4
    have H5 := H3.set (k := 4) (field (clOf T c q3) (fromOf T r)) hbig (by omega) (fun j hj hk => by rw [hfi]; rcases (show j = 0 ∨ j = 1 ∨ j = 2 ∨ j = 3 ∨ j = 4 by omega) with rfl | rfl | rfl | rfl | rfl <;> first | rfl | exact absurd rfl hk)
    change HM (w2.setCell ⟨g, (ad T c + (q3 + 1)) * 5 + 4, none⟩ (.int .i64 (fromOf T r))) hb g N _ (used T) at H5
    have hC5 : Ch (fun k => k = g) w (w2.setCell ⟨g, (ad T c + (q3 + 1)) * 5 + 4, none⟩ (.int .i64 (fromOf T r))) := (hC.out.trans hC3 (fun _ h => .inl h)).set (a := ⟨g, (ad T c + (q3 + 1)) * 5 + 4, none⟩) rfl _
    have HE := enter_any _ hb g N _ (used T) H5 (ad T k2) hkN
    rw [hfk] at HE
    dsimp only at HE
    have FIN := hid (And.intro hL4 (And.intro hI4 (And.intro hlf (And.intro (fun i hi => hne4 i (hsub i hi)) (hne4 k hk1)))))
    replace hC5 := hid hC5
    simp only [field] at d4
    rw [hn3] at d4
    clear H5 hL4 hI4 hlf hL3 hI3 H3 hC3 hC HS hwf' hRc' hsub hk1 hn hne3 hne4 hleft hhk hfi hk3 hk4 hkl hkr hcr hfk ehk hne5 hq1 hql hcu hRcc hRk
    go_upto_region 4 with (fail)
    all_goals go_wp2_with (go_at_call 35; refine HE.mono ?_; clear HE; rintro e w5 ⟨rfl, hH5, hc5⟩)
    exact ⟨_, FIN.out.2.2.1, ⟨rfl, rfl, rfl, ⟨_, k2, c :: r, _, rfl, rfl, hH5, FIN.out.1, FIN.out.2.1, FIN.out.2.2.2.1, FIN.out.2.2.2.2, rfl⟩, hC5.out.trans hc5 (fun _ h => .inl h)⟩⟩
end Go.Proofs.Ytidgppghakmkaaa
