/-
  The program's settle.
-/
import Derived.Test.YtidgppghakmkaaaHt
set_option linter.unusedVariables false
set_option linter.unusedSimpArgs false
namespace Go.Proofs.Ytidgppghakmkaaa
open Go.RowKit Go.Shelf Hp
attribute [local go_sem] Oper.semAt_some

theorem upTo_end {m : Nat → Bool} {a n : Nat} (h : upTo m a = upTo m n) : ∀ j, a ≤ j → j < n → m j = false := by
  intro j h1 h2
  cases hm : m j with
  | false => rfl
  | true =>
    obtain ⟨rest, hr⟩ := upTo_split m h2 hm
    have : j ∈ upTo m a := by rw [h, hr]; simp
    have := upTo_lt this
    omega
theorem upTo_next {m : Nat → Bool} {n x : Nat} {rest : List Nat} : ∀ d a, n - a = d → a ≤ n → upTo m n = upTo m a ++ x :: rest → a ≤ x ∧ x < n ∧ m x = true ∧ ∀ j, a ≤ j → j < x → m j = false
  | 0, a, hd, ha, h => by
    obtain rfl : a = n := by omega
    have := congrArg List.length h
    simp at this
  | d + 1, a, hd, ha, h => by
    cases hm : m a with
    | true =>
      obtain ⟨r2, hr⟩ := upTo_split m (show a < n by omega) hm
      rw [hr] at h
      obtain ⟨rfl, -⟩ := List.cons.inj (List.append_cancel_left h)
      exact ⟨Nat.le_refl _, by omega, hm, fun j h1 h2 => by omega⟩
    | false =>
      have e : upTo m (a + 1) = upTo m a := by rw [upTo_succ, hm]; simp
      rw [← e] at h
      obtain ⟨h1, h2, h3, h4⟩ := upTo_next d (a + 1) (by omega) (by omega) h
      refine ⟨by omega, h2, h3, fun j hj1 hj2 => ?_⟩
      by_cases ej : j = a
      · subst ej; exact hm
      · exact h4 j (by omega) hj2
theorem upTo_same {m : Nat → Bool} {a x : Nat} (hx : a ≤ x) (h : ∀ j, a ≤ j → j < x → m j = false) : upTo m x = upTo m a := by
  induction x with
  | zero => obtain rfl : a = 0 := by omega
            rfl
  | succ x ih =>
    by_cases e : a = x + 1
    · rw [e]
    · rw [upTo_succ, h x (by omega) (by omega), ih (by omega) (fun j h1 h2 => h j h1 (by omega))]; simp
theorem gS_shift {m : Nat → Bool} {T : List Th} {a x : Nat} (hx : a ≤ x) (h : ∀ j, a ≤ j → j < x → m j = false) (i k : Nat) : gS m T a i k = gS m T x i k := by
  induction x with
  | zero => obtain rfl : a = 0 := by omega
            rfl
  | succ x ih =>
    by_cases e : a = x + 1
    · rw [e]
    · rw [ih (by omega) (fun j h1 h2 => h j h1 (by omega)), gS_skip (h x (by omega) (by omega))]
theorem nad_shift {m : Nat → Bool} {T : List Th} {a x : Nat} (hx : a ≤ x) (hl : x ≤ T.length) (h : ∀ j, a ≤ j → j < x → m j = false) : nad m T a = nad m T x := by
  induction x with
  | zero => obtain rfl : a = 0 := by omega
            rfl
  | succ x ih =>
    by_cases e : a = x + 1
    · rw [e]
    · rw [ih (by omega) (by omega) (fun j h1 h2 => h j h1 (by omega)), nad_succ (List.getElem?_eq_getElem (by omega)), h x (by omega) (by omega)]; simp

/-- What lies there while one settles. -/
structure StI (B hb g N : Nat) (T : List Th) (m : Nat → Bool) (pre : List Nat) (O1 : Nat → Prop) (W : World) : Prop where
  own : ∀ k, O1 k ↔ k = g ∨ k = B + 1
  hp : W.heap[B]? = some (.cells #[.pointer (some ⟨hb, 0, none⟩)] 23 (0, 0))
  st : ∃ a f, a ≤ T.length ∧ pre = upTo m a ∧ HM W hb g N f (used T) ∧ Lay T f (gS m T a) ∧ W.heap[B + 1]? = some (.cells #[.int .i64 (nad m T a : Nat)] 3 (0, 0))

set_option maxRecDepth 100000 in
set_option maxHeartbeats 8000000 in
theorem settle_any (w : World) (hb g N : Nat) (T : List Th) (m : Nat → Bool) (f : Nat → PC) (H : HM w hb g N f (used T)) (hL : Lay T f (gS m T 0)) :
    Calls Try.prog 22 #[.pointer (some ⟨hb, 0, none⟩)] w fun e w' => e = .returned (.int .i64 (nad m T T.length : Nat)) ∧ (∃ f', HM w' hb g N f' (used T) ∧ Lay T f' (gS m T T.length)) ∧ Ch (fun k => k = g) w w' := by
  refine (callsIn_wide (n := 0)).1 ?_
  refine callsIn_of_wp_marks Try.func22 rfl trivial ?_ rfl
  simp only [Try.ntmps22, List.size_toArray, List.length_cons, List.length_nil, Nat.reduceAdd, Nat.reduceSub, Array.replicate_succ, Array.replicate_zero, List.push_toArray, List.append_toArray, List.nil_append, List.cons_append]
  have hbl : hb < w.heap.size := (Array.getElem?_eq_some_iff.1 H.hd).1
  have hgl : g < w.heap.size := (Array.getElem?_eq_some_iff.1 H.row).1
  gi_wp2
  obtain ⟨W0, hW0⟩ : ∃ W0, (w.alloc (.cells #[.pointer (some ⟨hb, 0, none⟩)] 23)).alloc (.cells #[.int .i64 0] 3) = W0 := ⟨_, rfl⟩
  have hc0 : Ch (fun _ => False) w W0 := by rw [← hW0]; exact ((Ch.refl _ w).al _).al _
  have hs0 : W0.heap.size = w.heap.size + 2 := by rw [← hW0]; simp
  have b0 : W0.heap[w.heap.size]? = some (.cells #[.pointer (some ⟨hb, 0, none⟩)] 23 (0, 0)) := by
    rw [← hW0]; exact (Below.heap_alloc _ _ _ (by simp)).trans (World.alloc_heap_new w _)
  have b1 : W0.heap[w.heap.size + 1]? = some (.cells #[.int .i64 0] 3 (0, 0)) := by
    rw [← hW0]; have := World.alloc_heap_new (w.alloc (.cells #[.pointer (some ⟨hb, 0, none⟩)] 23)) (.cells #[.int .i64 0] 3); rwa [World.size_alloc] at this
  rw [hW0]
  clear hW0
  have H0 := H.keep hc0
  generalize hBB : w.heap.size = B at *
  refine wp_rangeR (gf := 33) (bd := #[.pointer (some ⟨hb, 0, none⟩)]) (lb := #[]) (encs := fun i : Nat => #[.int .i64 (ad T i : Nat)]) (xs := upTo m T.length) (Rd := KRd hb g N T m) (O := fun k => k = g ∨ k = B + 1) rfl (enters_of Try.func33 (by kernel_rfl) rfl)
    (fun W1 _ => kept_goes W1 hb g N T m) (fun _ => rfl) (StI B hb g N T m) ?rd ?owns ?start (fun x => { tmps := #[.pointer (some ⟨hb, 0, none⟩), .pointer (some ⟨B, 0, none⟩), .int .i64 0, .pointer (some ⟨B + 1, 0, none⟩), .int .i64 (ad T x : Nat), .pointer (some ⟨hb, 0, none⟩), .func (.func 33) #[.pointer (some ⟨hb, 0, none⟩)] #[], .int .i64 (ad T x : Nat), undef, undef, undef, undef, undef, undef, undef, undef, undef, undef, undef, undef, undef, undef, undef, undef, undef, undef, undef, undef, undef], defers := [] }) ?assign ?body ?done
  case rd =>
    rintro pre O1 W ⟨-, -, a, f1, ha, rfl, H1, hL1, -⟩
    refine ⟨f1, H1, fun i t ht hj => ?_⟩
    have := hL1 i t ht 0 (Nat.zero_le _)
    rw [Nat.add_zero] at this
    rw [this]
    simp [gS, headC, thOf_at ht]
  case owns =>
    refine ⟨?_, ?_⟩
    · rintro pre O1 W W' ⟨ho, hp, a, f1, ha, rfl, H1, hL1, hu⟩ heo hsz hsm
      exact ⟨ho, (hsm B (.inr (by omega))).trans hp, a, f1, ha, rfl, ⟨(hsm hb (.inr (by omega))).trans H1.hd, (hsm g (.inr (by omega))).trans H1.row, H1.ne, H1.le, H1.max⟩, hL1, (hsm (B + 1) (.inr (by omega))).trans hu⟩
    · rintro pre O1 W k ⟨ho, hp, a, f1, ha, rfl, H1, hL1, hu⟩ hk
      rcases (ho k).1 hk with rfl | rfl
      · exact (Array.getElem?_eq_some_iff.1 H1.row).1
      · exact (Array.getElem?_eq_some_iff.1 hu).1
  case start => exact ⟨fun _ => Iff.rfl, b0, 0, f, Nat.zero_le _, rfl, H0, hL, by rw [show nad m T 0 = 0 by simp [nad, keepL, used]]; exact b1⟩
  case assign =>
    intro l2 x W K hK
    simp only [List.zip_toArray, List.foldl_toArray, List.zip_cons_cons, List.zip_nil_right, List.foldl_cons, List.foldl_nil, List.setIfInBounds_toArray, List.set_cons_zero, List.set_cons_succ]
    gi_wp2
    exact hK
  case body =>
    rintro l2 pre x O1 W ⟨ho, hp, a, f1, ha, rfl, H1, hL1, hu⟩ ⟨rest, hx⟩ - hc
    obtain ⟨hax, hxl, hmx, hsk⟩ := upTo_next _ a rfl ha hx
    have hL2 : Lay T f1 (gS m T x) := hL1.as (fun i _ _ k _ => gS_shift hax hsk i k)
    rw [nad_shift hax (by omega) hsk] at hu
    have eu : upTo m (x + 1) = upTo m a ++ [x] := by rw [upTo_succ, hmx, upTo_same hax hsk]; rfl
    obtain ⟨t, ht⟩ : ∃ t, T[x]? = some t := ⟨_, List.getElem?_eq_getElem hxl⟩
    have hud := ad_used ht
    have hs : t.size = t.l.length + 1 := rfl
    have hle := H1.le
    have hmxN := H1.max
    have haN : ad T x < N := by omega
    have haNI : ((ad T x : Nat) : Int) < (N : Int) := by omega
    have hna := nad_le m T x (by omega)
    have hns := nad_succ (m := m) ht
    rw [hmx, if_pos rfl] at hns
    have hfx : f1 (ad T x) = headC T x 3 (if x < x then (nad m T x : Nat) else ((thOf T x).l.length : Nat)) := by
      have := hL2 x t ht 0 (Nat.zero_le _)
      rw [Nat.add_zero] at this
      rw [this]
      simp [gS, hmx]
    rw [if_neg (by omega), thOf_at ht] at hfx
    simp only [headC, thOf_at ht] at hfx
    have p0 : W.cell? ⟨B, 0, none⟩ = some (.pointer (some ⟨hb, 0, none⟩)) := by unfold World.cell?; rw [hp]; rfl
    have q0 : W.cell? ⟨B + 1, 0, none⟩ = some (.int .i64 (nad m T x : Nat)) := by unfold World.cell?; rw [hu]; rfl
    have qf : W.frozen? ⟨B + 1, 0, none⟩ = false := by unfold World.frozen?; rw [hu]; rfl
    obtain ⟨h0, -, -⟩ := H1.head
    obtain ⟨-, -, -, d3, d4⟩ := H1.five haN
    rw [hfx] at d3 d4
    have gf := H1.fz (ad T x * 5 + 4)
    have hne1 : g ≠ B := by omega
    have hne2 : g ≠ B + 1 := by omega
    have hne3 : hb ≠ B + 1 := by omega
    have hne4 := H1.ne
    have H2 := H1.set (k := 4) (headC T x 3 (nad m T x : Nat)) haN (by omega) (fun j hj hk => by rw [hfx]; rcases (show j = 0 ∨ j = 1 ∨ j = 2 ∨ j = 3 ∨ j = 4 by omega) with rfl | rfl | rfl | rfl | rfl <;> first | (simp [cv, headC, thOf_at ht]; done) | exact absurd rfl hk)
    change HM (W.setCell ⟨g, ad T x * 5 + 4, none⟩ (.int .i64 (nad m T x : Nat))) hb g N _ (used T) at H2
    have hcW : Ch (fun k => k = g ∨ k = B + 1) W (W.setCell ⟨g, ad T x * 5 + 4, none⟩ (.int .i64 (nad m T x : Nat))) := Ch.setCell _ _ _ (.inl rfl)
    have hpV : (W.setCell ⟨g, ad T x * 5 + 4, none⟩ (.int .i64 (nad m T x : Nat))).heap[B]? = some (.cells #[.pointer (some ⟨hb, 0, none⟩)] 23 (0, 0)) := blk_other hp (Ne.symm hne1)
    have huV : (W.setCell ⟨g, ad T x * 5 + 4, none⟩ (.int .i64 (nad m T x : Nat))).heap[B + 1]? = some (.cells #[.int .i64 (nad m T x : Nat)] 3 (0, 0)) := blk_other hu (Ne.symm hne2)
    have hL3 : Lay T (Hp.upd f1 (ad T x) (headC T x 3 (nad m T x : Nat))) (gS m T (x + 1)) := by
      have h1 := hL2.upd (k := 0) ht (Nat.zero_le _) (headC T x 3 (nad m T x : Nat))
      rw [Nat.add_zero] at h1
      exact h1.as (fun i _ _ k _ => gS_step hmx i k)
    have hf2 : Hp.upd f1 (ad T x) (headC T x 3 (nad m T x : Nat)) (ad T x) = headC T x 3 (nad m T x : Nat) := by simp [Hp.upd]
    generalize Hp.upd f1 (ad T x) (headC T x 3 (nad m T x : Nat)) = f2 at H2 hL3 hf2
    have KK := hid (And.intro H2 (And.intro hcW (And.intro hpV (And.intro huV (And.intro hL3 hf2)))))
    have KH := hid (And.intro eu (And.intro ho (And.intro hns (And.intro hs hc))))
    clear H2 hcW hpV huV hL3 hf2 eu ho hns hc hp hu H1 hL1 hL2 hx hsk hfx H hL H0 hc0 b0 b1
    gi_wp2
    refine wpIn_mono (Q := fun e a' w' => e = .normal ∧ a' = (⟨#[.pointer (some ⟨hb, 0, none⟩), .pointer (some ⟨B, 0, none⟩), .int .i64 0, .pointer (some ⟨B + 1, 0, none⟩), .int .i64 (ad T x : Nat), .pointer (some ⟨hb, 0, none⟩), .func (.func 33) #[.pointer (some ⟨hb, 0, none⟩)] #[], .int .i64 (ad T x : Nat), .pointer (some ⟨hb, 0, none⟩), .pointer (some ⟨hb, 0, none⟩), .pointer (some ⟨hb, 0, none⟩), .slice (some ⟨g, 0, none⟩) N N, .int .i64 (ad T x : Nat), .int .i64 (nad m T x : Nat), .pointer (some ⟨g, ad T x * 5, none⟩), .pointer (some ⟨g, ad T x * 5 + 4, none⟩), undef, undef, undef, undef, undef, undef, undef, undef, undef, undef, undef, undef, undef], []⟩ : Act) ∧ w' = (W.setCell ⟨g, ad T x * 5 + 4, none⟩ (.int .i64 (nad m T x : Nat))).drew) ?_ ?_
    · gi_region
      all_goals exact ⟨rfl, rfl, rfl⟩
    rintro _ _ _ ⟨rfl, rfl, rfl⟩
    have hV : Hid (HM (W.setCell ⟨g, ad T x * 5 + 4, none⟩ (.int .i64 (nad m T x : Nat))).drew hb g N f2 (used T) ∧ Ch (fun k => k = g ∨ k = B + 1) W (W.setCell ⟨g, ad T x * 5 + 4, none⟩ (.int .i64 (nad m T x : Nat))).drew ∧ (W.setCell ⟨g, ad T x * 5 + 4, none⟩ (.int .i64 (nad m T x : Nat))).drew.heap[B]? = some (.cells #[.pointer (some ⟨hb, 0, none⟩)] 23 (0, 0)) ∧ (W.setCell ⟨g, ad T x * 5 + 4, none⟩ (.int .i64 (nad m T x : Nat))).drew.heap[B + 1]? = some (.cells #[.int .i64 (nad m T x : Nat)] 3 (0, 0))) := ⟨KK.out.1.dr, KK.out.2.1.dr, KK.out.2.2.1, KK.out.2.2.2.1⟩
    have hL3 := hid KK.out.2.2.2.2.1
    have hf2 := KK.out.2.2.2.2.2
    clear KK p0 q0 qf h0 d3 d4 gf
    generalize (W.setCell ⟨g, ad T x * 5 + 4, none⟩ (.int .i64 (nad m T x : Nat))).drew = V at hV ⊢
    obtain ⟨H4, hc4, hp4, hu4⟩ := hV.out
    clear hV
    have p0 : V.cell? ⟨B, 0, none⟩ = some (.pointer (some ⟨hb, 0, none⟩)) := by unfold World.cell?; rw [hp4]; rfl
    have q0 : V.cell? ⟨B + 1, 0, none⟩ = some (.int .i64 (nad m T x : Nat)) := by unfold World.cell?; rw [hu4]; rfl
    have qf : V.frozen? ⟨B + 1, 0, none⟩ = false := by unfold World.frozen?; rw [hu4]; rfl
    obtain ⟨h0, -, -⟩ := H4.head
    obtain ⟨-, -, -, d3, -⟩ := H4.five haN
    rw [hf2] at d3
    simp only [headC, thOf_at ht] at d3
    have hw1 : IntKind.i64.wrap ((t.l.length : Nat) : Int) = ((t.l.length : Nat) : Int) := IntWalk.i64_in _ (by omega)
    have hw2 : IntKind.i64.wrap (((t.l.length : Nat) : Int) + 1) = ((t.l.length : Nat) : Int) + 1 := IntWalk.i64_in _ (by omega)
    have hw3 : IntKind.i64.wrap (((nad m T x : Nat) : Int) + (((t.l.length : Nat) : Int) + 1)) = ((nad m T x : Nat) : Int) + (((t.l.length : Nat) : Int) + 1) := IntWalk.i64_in _ (by omega)
    have FIN : Hid (∃ O2, StI B hb g N T m (upTo m a ++ [x]) O2 (V.setCell ⟨B + 1, 0, none⟩ (.int .i64 (((nad m T x : Nat) : Int) + (((t.l.length : Nat) : Int) + 1)))).drew ∧ Ch O1 W (V.setCell ⟨B + 1, 0, none⟩ (.int .i64 (((nad m T x : Nat) : Int) + (((t.l.length : Nat) : Int) + 1)))).drew ∧ ∀ k, O2 k → O1 k ∨ W.heap.size ≤ k) := by
      have e9 : ((nad m T x : Nat) : Int) + (((t.l.length : Nat) : Int) + 1) = ((nad m T (x + 1) : Nat) : Int) := by rw [KH.out.2.2.1, KH.out.2.2.2.1]; omega
      rw [e9]
      have H5 : HM (V.setCell ⟨B + 1, 0, none⟩ (.int .i64 ((nad m T (x + 1) : Nat) : Int))) hb g N f2 (used T) := H4.other _ (fun e => hne2 e.symm) (fun e => hne3 e.symm)
      have hu5 := blk_set (i := 0) (v := .int .i64 ((nad m T (x + 1) : Nat) : Int)) hu4
      refine ⟨fun k => k = g ∨ k = B + 1, ⟨fun _ => Iff.rfl, blk_other hp4 (by show B ≠ B + 1; omega), x + 1, f2, by omega, KH.out.1.symm, H5.dr, hL3.out, hu5⟩, ?_, fun k hk => .inl ((KH.out.2.1 k).2 hk)⟩
      exact ((hc4.mono (fun k hk => (KH.out.2.1 k).2 hk)).set (a := ⟨B + 1, 0, none⟩) ((KH.out.2.1 _).2 (.inr rfl)) _).dr
    clear H4 hc4 hp4 hu4 hf2 hL3 KH
    gi_wp2
    gi_region
    all_goals exact ⟨rfl, FIN.out⟩
  case done =>
    rintro D1 O2 W hD1 hn ⟨ho, hp, a, f1, ha, hx, H1, hL1, hu⟩ hc hsub hk
    have hsk := upTo_end hx.symm
    have hL2 : Lay T f1 (gS m T T.length) := hL1.as (fun i _ _ k _ => gS_shift ha hsk i k)
    rw [nad_shift ha (Nat.le_refl _) hsk] at hu
    have hv : W.cell? ⟨B + 1, 0, none⟩ = some (.int .i64 (nad m T T.length : Nat)) := by unfold World.cell?; rw [hu]; rfl
    have hDg : ¬ O2 D1 := hn
    gi_wp2
    refine ⟨by simp, .inl ⟨_, _, rfl, run_takeDeferred hk, ?_⟩⟩
    refine ⟨_, results_tmp rfl _ _ _, rfl, ⟨f1, ⟨(World.putObj_heap_other (by omega)).trans H1.hd, (World.putObj_heap_other (by omega)).trans H1.row, H1.ne, H1.le, H1.max⟩, hL2⟩, ?_⟩
    exact ((hc0.mono (fun _ h => h.elim)).trans hc (fun k h => by rcases h with h | h; exact .inl h; exact .inr (by omega))).trans (Ch.put (O := fun k => k = D1) W D1 _ rfl) (fun k hk => .inr (by omega))
end Go.Proofs.Ytidgppghakmkaaa
