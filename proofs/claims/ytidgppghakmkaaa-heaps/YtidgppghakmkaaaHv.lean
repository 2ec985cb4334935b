/-
  The program's refer.
-/
import Derived.Test.YtidgppghakmkaaaRq
set_option linter.unusedVariables false
set_option linter.unusedSimpArgs false
namespace Go.Proofs.Ytidgppghakmkaaa
open Go.RowKit Go.Shelf Hp
attribute [local go_sem] Oper.semAt_some
attribute [local simp] wide_fn

theorem gR_shift {m : Nat → Bool} {T : List Th} {a x : Nat} (hx : a ≤ x) (h : ∀ j, a ≤ j → j < x → m j = false) (i k : Nat) : gR m T a 0 i k = gR m T x 0 i k := by
  induction x with
  | zero => obtain rfl : a = 0 := by omega
            rfl
  | succ x ih =>
    by_cases e : a = x + 1
    · rw [e]
    · rw [ih (by omega) (fun j h1 h2 => h j h1 (by omega)), gR_skip (h x (by omega) (by omega))]
/-- What lies there while the references are made new. -/
structure RfI (B hb g N : Nat) (T : List Th) (m : Nat → Bool) (pre : List Nat) (O1 : Nat → Prop) (W : World) : Prop where
  own : ∀ k, O1 k ↔ k = g
  hp : W.heap[B]? = some (.cells #[.pointer (some ⟨hb, 0, none⟩)] 23 (0, 0))
  st : ∃ a f, a ≤ T.length ∧ pre = upTo m a ∧ HM W hb g N f (used T) ∧ Lay T f (gR m T a 0)
/-- What is marked refers to what is marked. -/
def Kpt (T : List Th) (m : Nat → Bool) : Prop := ∀ i t j, T[i]? = some t → m i = true → j < t.l.length → (clOf T i j).ptr = true → ∃ k u, T[k]? = some u ∧ (clOf T i j).n = (ad T k : Nat) ∧ m k = true

set_option maxRecDepth 100000 in
set_option maxHeartbeats 8000000 in
theorem refer_any (w : World) (hb g N : Nat) (T : List Th) (m : Nat → Bool) (f : Nat → PC) (H : HM w hb g N f (used T)) (hL : Lay T f (gR m T 0 0)) (hK : Kpt T m) :
    Calls Try.prog 23 #[.pointer (some ⟨hb, 0, none⟩)] w fun e w' => e = .returned (.tuple #[]) ∧ (∃ f', HM w' hb g N f' (used T) ∧ Lay T f' (gR m T T.length 0)) ∧ Ch (fun k => k = g) w w' := by
  refine (callsIn_wide (n := 0)).1 ?_
  refine callsIn_of_wp_marks Try.func23 rfl trivial ?_ rfl
  simp only [Try.ntmps23, List.size_toArray, List.length_cons, List.length_nil, Nat.reduceAdd, Nat.reduceSub, Array.replicate_succ, Array.replicate_zero, List.push_toArray, List.append_toArray, List.nil_append, List.cons_append]
  have hbl : hb < w.heap.size := (Array.getElem?_eq_some_iff.1 H.hd).1
  have hgl : g < w.heap.size := (Array.getElem?_eq_some_iff.1 H.row).1
  gi_wp2
  obtain ⟨W0, hW0⟩ : ∃ W0, (w.alloc (.cells #[.pointer (some ⟨hb, 0, none⟩)] 23)) = W0 := ⟨_, rfl⟩
  have hc0 : Ch (fun _ => False) w W0 := by rw [← hW0]; exact (Ch.refl _ w).al _
  have hs0 : W0.heap.size = w.heap.size + 1 := by rw [← hW0]; simp
  have b0 : W0.heap[w.heap.size]? = some (.cells #[.pointer (some ⟨hb, 0, none⟩)] 23 (0, 0)) := by
    rw [← hW0]; exact World.alloc_heap_new w _
  rw [hW0]
  clear hW0
  have H0 := H.keep hc0
  generalize hBB : w.heap.size = B at *
  refine wp_rangeR (gf := 33) (bd := #[.pointer (some ⟨hb, 0, none⟩)]) (lb := #[]) (encs := fun i : Nat => #[.int .i64 (ad T i : Nat)]) (xs := upTo m T.length) (Rd := KRd hb g N T m) (O := fun k => k = g) rfl (enters_of Try.func33 (by kernel_rfl) rfl)
    (fun W1 _ => kept_goes W1 hb g N T m) (fun _ => rfl) (RfI B hb g N T m) ?rd ?owns ?start (fun x => { tmps := #[.pointer (some ⟨hb, 0, none⟩), .pointer (some ⟨B, 0, none⟩), .int .i64 (ad T x : Nat), undef, undef, undef, .pointer (some ⟨hb, 0, none⟩), .func (.func 33) #[.pointer (some ⟨hb, 0, none⟩)] #[], .int .i64 (ad T x : Nat), undef, undef, undef, undef, undef, undef, undef, undef, undef, undef, undef, undef, undef, undef, undef, undef, undef, undef, undef, undef, undef, undef, undef, undef, undef, undef, undef, undef, undef, undef, undef, undef, undef, undef, undef, undef, undef, undef, undef, undef, undef, undef, undef, undef, undef, undef, undef, undef, undef, undef, undef, undef], defers := [] }) ?assign ?body ?done
  case rd =>
    rintro pre O1 W ⟨-, -, a, f1, ha, rfl, H1, hL1⟩
    refine ⟨f1, H1, fun i t ht hj => ?_⟩
    have := hL1 i t ht 0 (Nat.zero_le _)
    rw [Nat.add_zero] at this
    rw [this]
    simp [gR, headC, thOf_at ht]
  case owns =>
    refine ⟨?_, ?_⟩
    · rintro pre O1 W W' ⟨ho, hp, a, f1, ha, rfl, H1, hL1⟩ heo hsz hsm
      exact ⟨ho, (hsm B (.inr (by omega))).trans hp, a, f1, ha, rfl, ⟨(hsm hb (.inr (by omega))).trans H1.hd, (hsm g (.inr (by omega))).trans H1.row, H1.ne, H1.le, H1.max⟩, hL1⟩
    · rintro pre O1 W k ⟨ho, hp, a, f1, ha, rfl, H1, hL1⟩ hk
      rw [(ho k).1 hk]
      exact (Array.getElem?_eq_some_iff.1 H1.row).1
  case start => exact ⟨fun _ => Iff.rfl, b0, 0, f, Nat.zero_le _, rfl, H0, hL⟩
  case assign =>
    intro l2 x W K hK
    simp only [List.zip_toArray, List.foldl_toArray, List.zip_cons_cons, List.zip_nil_right, List.foldl_cons, List.foldl_nil, List.setIfInBounds_toArray, List.set_cons_zero, List.set_cons_succ]
    gi_wp2
    exact hK
  case body =>
    rintro l2 pre x O1 W ⟨ho, hp, a, f1, ha, rfl, H1, hL1⟩ ⟨rest, hx⟩ - hc
    obtain ⟨hax, hxl, hmx, hsk⟩ := upTo_next _ a rfl ha hx
    have hL2 : Lay T f1 (gR m T x 0) := hL1.as (fun i _ _ k _ => gR_shift hax hsk i k)
    have eu : upTo m (x + 1) = upTo m a ++ [x] := by rw [upTo_succ, hmx, upTo_same hax hsk]; rfl
    obtain ⟨t, ht⟩ : ∃ t, T[x]? = some t := ⟨_, List.getElem?_eq_getElem hxl⟩
    have hud := ad_used ht
    have hs : t.size = t.l.length + 1 := rfl
    have hle := H1.le
    have hmxN := H1.max
    have haN : ad T x < N := by omega
    have haNI : ((ad T x : Nat) : Int) < (N : Int) := by omega
    have hfx : f1 (ad T x) = headC T x 3 (nad m T x : Nat) := by
      have := hL2 x t ht 0 (Nat.zero_le _)
      rw [Nat.add_zero] at this
      rw [this]
      simp [gR, hmx]
    simp only [headC, thOf_at ht] at hfx
    have p0 : W.cell? ⟨B, 0, none⟩ = some (.pointer (some ⟨hb, 0, none⟩)) := by unfold World.cell?; rw [hp]; rfl
    obtain ⟨h0, -, -⟩ := H1.head
    obtain ⟨-, -, -, d3, -⟩ := H1.five haN
    rw [hfx] at d3
    have hw1 : IntKind.i64.wrap (((ad T x : Nat) : Int) + 1) = ((ad T x : Nat) : Int) + 1 := IntWalk.i64_in _ (by omega)
    gi_wp2
    refine wpIn_round_quiet (by kernel_rfl) (by kernel_rfl) (by kernel_rfl) ?_
    repeat (gi_big_quiet_step (fail))
    refine wpQuietIn_nil ?_
    intro _ hw'
    obtain ⟨nq, hw''⟩ := hw'
    subst hw''
    have hcN : Ch (fun k => k = g) W (W.drewN nq) := ⟨Nat.le_refl _, fun _ _ _ => rfl, rfl, rfl⟩
    have HN : HM (W.drewN nq) hb g N f1 (used T) := ⟨H1.hd, H1.row, H1.ne, H1.le, H1.max⟩
    have hpN : (W.drewN nq).heap[B]? = some (.cells #[.pointer (some ⟨hb, 0, none⟩)] 23 (0, 0)) := hp
    have KH := hid (And.intro eu (And.intro ho (And.intro hL2 (And.intro hcN (And.intro HN hpN)))))
    clear eu ho hL2 hcN HN hpN hL1 hp p0 h0 d3 H1 hx hsk hfx H hL H0 hc0 b0 hc
    generalize W.drewN nq = V at KH ⊢
    have FIN : ∀ (V' : World) (f2 : Nat → PC), HM V' hb g N f2 (used T) → Lay T f2 (gR m T x t.l.length) → Ch (fun k => k = g) W V' → V'.heap[B]? = some (.cells #[.pointer (some ⟨hb, 0, none⟩)] 23 (0, 0)) → ∃ O2, RfI B hb g N T m (upTo m a ++ [x]) O2 V' ∧ Ch O1 W V' ∧ ∀ k, O2 k → O1 k ∨ W.heap.size ≤ k := by
      intro V' f2 h1 h2 h3 h4
      refine ⟨fun k => k = g, ⟨fun _ => Iff.rfl, h4, x + 1, f2, by omega, KH.out.1.symm, h1, h2.as (fun i u hu k hk => gR_next ht i k u hu hk)⟩, h3.mono (fun k hk => (KH.out.2.1 k).2 hk), fun k hk => .inl ((KH.out.2.1 k).2 hk)⟩
    replace FIN := hid FIN
    gi_wp2
    · -- nothing lies behind the head
      have hz : t.l.length = 0 := by omega
      subst h
      rw [hz]
      refine wpIn_loop_rounds 1 ?_
      unfold Code.roundsIn
      gi_wp2
      exact FIN.out _ f1 KH.out.2.2.2.2.1 (by rw [hz]; exact KH.out.2.2.1) KH.out.2.2.2.1 KH.out.2.2.2.2.2
    gi_loopw [27] (fun v wr => ∃ (j : Nat) (f2 : Nat → PC), v = .int .i64 (j : Nat) ∧ j ≤ t.l.length ∧ HM wr hb g N f2 (used T) ∧ Lay T f2 (gR m T x j) ∧ Ch (fun k => k = g) W wr ∧ wr.heap[B]? = some (.cells #[.pointer (some ⟨hb, 0, none⟩)] 23 (0, 0))) (fun v _ => t.l.length - (intOf v).toNat)
    case atStart => exact ⟨0, f1, rfl, Nat.zero_le _, KH.out.2.2.2.2.1, KH.out.2.2.1, KH.out.2.2.2.1, KH.out.2.2.2.2.2⟩
    case round =>
      obtain ⟨j, f2, rfl, hj, H2, hL2, hc2, hp2⟩ := hrel
      by_cases ej : j = t.l.length
      · subst ej
        gi_wp2
        exact FIN.out _ f2 H2 hL2 hc2 hp2
      have hjl : j < t.l.length := by omega
      have hjI : (j : Int) < (t.l.length : Int) := by omega
      have hfj : f2 (ad T x + (j + 1)) = ⟨if (clOf T x j).ptr then 1 else 0, 0, 0, 0, (clOf T x j).n⟩ := by
        rw [hL2 x t ht (j + 1) (by omega)]
        simp [gR, field]
      have hqN : ad T x + (j + 1) < N := by omega
      have eo : (ad T x + 1) * 5 + j * 5 = (ad T x + (j + 1)) * 5 := by omega
      have p0 : wr.cell? ⟨B, 0, none⟩ = some (.pointer (some ⟨hb, 0, none⟩)) := by unfold World.cell?; rw [hp2]; rfl
      obtain ⟨h0, -, -⟩ := H2.head
      obtain ⟨d0, -, -, -, d4⟩ := H2.five hqN
      rw [hfj] at d0 d4
      dsimp only at d0 d4
      cases hpt : (clOf T x j).ptr with
      | false =>
        rw [hpt] at d0
        simp only [Bool.false_eq_true, if_false] at d0
        gi_wp2
        refine wpIn_round_quiet (by kernel_rfl) (by kernel_rfl) (by kernel_rfl) ?_
        repeat (gi_big_quiet_step (fail))
        refine wpQuietIn_nil ?_
        intro _ hw'
        obtain ⟨nq2, hw''⟩ := hw'
        subst hw''
        have hcN : Ch (fun k => k = g) W (wr.drewN nq2) := ⟨hc2.size, hc2.same, hc2.eo⟩
        have HN : HM (wr.drewN nq2) hb g N f2 (used T) := ⟨H2.hd, H2.row, H2.ne, H2.le, H2.max⟩
        have hpN : (wr.drewN nq2).heap[B]? = some (.cells #[.pointer (some ⟨hb, 0, none⟩)] 23 (0, 0)) := hp2
        have hLN : Lay T f2 (gR m T x (j + 1)) := hL2.as (fun i _ _ k _ => gR_same hpt i k)
        clear H2 hL2 hc2 hp2 p0 h0 d0 d4 hfj
        generalize wr.drewN nq2 = V2 at hcN HN hpN ⊢
        have hw2 : IntKind.i64.wrap ((j : Int) + 1) = (j : Int) + 1 := IntWalk.i64_in _ (by omega)
        gi_wp2
        go_roundw
        case rel => exact ⟨j + 1, f2, by simp, by omega, HN, hLN, hcN, hpN⟩
        case measure => simp [intOf]; omega
      | true =>
        rw [hpt] at d0
        simp only [if_true] at d0
        obtain ⟨k, u, hu, hn, hmk⟩ := hK x t j ht hmx hjl hpt
        rw [hn] at d4
        have huk := ad_used hu
        have hsu : u.size = u.l.length + 1 := rfl
        have hkN : ad T k < N := by omega
        have hkNI : ((ad T k : Nat) : Int) < (N : Int) := by omega
        have hfk : f2 (ad T k) = headC T k 3 (nad m T k : Nat) := by
          have := hL2 k u hu 0 (Nat.zero_le _)
          rw [Nat.add_zero] at this
          rw [this]
          simp [gR, hmk]
        simp only [headC, thOf_at hu] at hfk
        obtain ⟨-, -, -, -, e4⟩ := H2.five hkN
        rw [hfk] at e4
        have hlt : liesF f2 (used T) ((ad T k : Nat) : Int) = true := by
          have h1 : ad T k < used T := by omega
          simp [liesF, h1, hfk]
        have HLq : ∀ q, CallsIn Fence.wide 0 Try.prog 31 #[.pointer (some ⟨hb, 0, none⟩), .int .i64 (ad T k : Nat)] (wr.drewN q) (fun e w'' => e = .returned (.bool true) ∧ ∃ q2, w'' = wr.drewN q2) := fun q => by
          have h1 := lies_any (wr.drewN q) hb g N f2 (used T) ⟨H2.hd, H2.row, H2.ne, H2.le, H2.max⟩ ((ad T k : Nat) : Int)
          rw [hlt] at h1
          exact ((callsIn_wide (n := 0)).2 h1).mono (fun e w'' h => ⟨h.1, q, h.2⟩)
        gi_wp2
        refine wpIn_round_quiet (by kernel_rfl) (by kernel_rfl) (by kernel_rfl) ?_
        repeat (gi_big_quiet_step (exact ⟨rfl, HLq _⟩))
        refine wpQuietIn_nil ?_
        intro _ hw'
        obtain ⟨nq2, hw''⟩ := hw'
        subst hw''
        have hcN : Ch (fun k => k = g) W (wr.drewN nq2) := ⟨hc2.size, hc2.same, hc2.eo⟩
        have HN : HM (wr.drewN nq2) hb g N f2 (used T) := ⟨H2.hd, H2.row, H2.ne, H2.le, H2.max⟩
        have hpN : (wr.drewN nq2).heap[B]? = some (.cells #[.pointer (some ⟨hb, 0, none⟩)] 23 (0, 0)) := hp2
        clear H2 hc2 hp2 p0 h0 d0 d4 e4 HLq
        generalize wr.drewN nq2 = V2 at hcN HN hpN ⊢
        have p0 : V2.cell? ⟨B, 0, none⟩ = some (.pointer (some ⟨hb, 0, none⟩)) := by unfold World.cell?; rw [hpN]; rfl
        obtain ⟨h0, -, -⟩ := HN.head
        obtain ⟨-, -, -, -, d4⟩ := HN.five hqN
        rw [hfj] at d4
        dsimp only at d4
        rw [hn] at d4
        obtain ⟨-, -, -, -, e4⟩ := HN.five hkN
        rw [hfk] at e4
        dsimp only at e4
        have hff := HN.fz ((ad T x + (j + 1)) * 5 + 4)
        gi_wp2
        refine wpIn_round_split 14 1 (by kernel_rfl) (by kernel_rfl) rfl (by kernel_rfl) (by kernel_rfl) (by kernel_rfl) ?_
        simp only [List.take_succ_cons, List.take_zero]
        repeat (gi_big_quiet_step (fail))
        refine wpQuietIn_nil ?_
        intro _ hw'
        obtain ⟨nq3, hw''⟩ := hw'
        subst hw''
        refine wpAnyIn_ready (rs := [14]) (by kernel_rfl) (by simp) (AllReadyIn.cons rfl (fun K hK => ?_) AllReadyIn.nil)
        go_simp
        refine hK _ _ ?_
        clear hK K
        refine wpAnyIn_done (by kernel_rfl) ?_ _
        have hnew : (newC m T (clOf T x j)).n = (nad m T k : Nat) := by
          simp only [newC, hpt, if_true, new]
          rw [idx_is ⟨u, hu, hn⟩]
        have H5 := HN.set (k := 4) (field (clOf T x j) (newC m T (clOf T x j)).n) hqN (by omega) (fun j' hj' hk' => by rw [hfj]; rcases (show j' = 0 ∨ j' = 1 ∨ j' = 2 ∨ j' = 3 ∨ j' = 4 by omega) with rfl | rfl | rfl | rfl | rfl <;> first | (simp [cv, field]; done) | exact absurd rfl hk')
        change HM (V2.setCell ⟨g, (ad T x + (j + 1)) * 5 + 4, none⟩ (.int .i64 (newC m T (clOf T x j)).n)) hb g N _ (used T) at H5
        rw [hnew] at H5
        have hL5 : Lay T (Hp.upd f2 (ad T x + (j + 1)) (field (clOf T x j) (nad m T k : Nat))) (gR m T x (j + 1)) := by
          have h1 := hL2.upd (k := j + 1) ht (by omega) (field (clOf T x j) (newC m T (clOf T x j)).n)
          rw [← hnew]
          exact h1.as (fun i _ _ k _ => gR_step hmx i k)
        have H6 : HM ((V2.drewN nq3).setCell ⟨g, (ad T x + (j + 1)) * 5 + 4, none⟩ (.int .i64 (nad m T k : Nat))) hb g N (Hp.upd f2 (ad T x + (j + 1)) (field (clOf T x j) (nad m T k : Nat))) (used T) := ⟨H5.hd, H5.row, H5.ne, H5.le, H5.max⟩
        have hc6 : Ch (fun k => k = g) W ((V2.drewN nq3).setCell ⟨g, (ad T x + (j + 1)) * 5 + 4, none⟩ (.int .i64 (nad m T k : Nat))) := Ch.set (O := fun k => k = g) (w' := V2.drewN nq3) ⟨hcN.size, hcN.same, hcN.eo⟩ (a := ⟨g, (ad T x + (j + 1)) * 5 + 4, none⟩) rfl _
        have hp6 : ((V2.drewN nq3).setCell ⟨g, (ad T x + (j + 1)) * 5 + 4, none⟩ (.int .i64 (nad m T k : Nat))).heap[B]? = some (.cells #[.pointer (some ⟨hb, 0, none⟩)] 23 (0, 0)) := blk_other (w := V2.drewN nq3) hpN (by show B ≠ g; omega)
        clear H5 HN hcN hpN hL2 p0 h0 d4 e4 hff hfj hfk
        generalize (V2.drewN nq3).setCell ⟨g, (ad T x + (j + 1)) * 5 + 4, none⟩ (.int .i64 (nad m T k : Nat)) = V3 at H6 hc6 hp6 ⊢
        have hw2 : IntKind.i64.wrap ((j : Int) + 1) = (j : Int) + 1 := IntWalk.i64_in _ (by omega)
        gi_wp2
        go_roundw
        case rel => exact ⟨j + 1, _, by simp, by omega, H6, hL5, hc6, hp6⟩
        case measure => simp [intOf]; omega
  case done =>
    rintro D1 O2 W hD1 hn ⟨ho, hp, a, f1, ha, hx, H1, hL1⟩ hc hsub hk
    have hsk := upTo_end hx.symm
    have hL2 : Lay T f1 (gR m T T.length 0) := hL1.as (fun i _ _ k _ => gR_shift ha hsk i k)
    gi_wp2
    refine ⟨by simp, .inl ⟨_, _, rfl, run_takeDeferred hk, ?_⟩⟩
    refine ⟨_, results_none rfl _ _ _, rfl, ⟨f1, ⟨(World.putObj_heap_other (by omega)).trans H1.hd, (World.putObj_heap_other (by omega)).trans H1.row, H1.ne, H1.le, H1.max⟩, hL2⟩, ?_⟩
    exact ((hc0.mono (fun _ h => h.elim)).trans hc (fun k h => .inl h)).trans (Ch.put (O := fun k => k = D1) W D1 _ rfl) (fun k hk => .inr (by omega))
end Go.Proofs.Ytidgppghakmkaaa
