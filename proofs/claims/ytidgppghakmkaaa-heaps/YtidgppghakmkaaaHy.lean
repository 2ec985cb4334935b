/-
  The program's Collect.
-/
import Derived.Test.YtidgppghakmkaaaHx
set_option linter.unusedVariables false
set_option linter.unusedSimpArgs false
namespace Go.Proofs.Ytidgppghakmkaaa
open scoped Classical
open Go.RowKit Go.Shelf Hp
attribute [local go_sem] Oper.semAt_some
attribute [local simp] wide_fn

namespace Hp
def roL (r : Nat → Cl) : List Cl := (List.range 6).map r
/-- Which things are reached. -/
def mR (T : List Th) (r : Nat → Cl) [∀ k, Decidable (Rch T (roL r) k)] : Nat → Bool := fun k => decide (Rch T (roL r) k)
theorem mR_iff (T : List Th) (r : Nat → Cl) (k : Nat) : mR T r k = true ↔ Rch T (roL r) k := by simp [mR]
theorem mem_roL (r : Nat → Cl) {c : Cl} : c ∈ roL r ↔ ∃ j, j < 6 ∧ r j = c := by simp [roL, List.mem_range]
/-- Roots that refer to things. -/
def RV (T : List Th) (r : Nat → Cl) : Prop := ∀ i, i < 6 → (r i).ptr = true → ∃ k, Is T (r i).n k
theorem clOf_mem {T : List Th} {i j : Nat} {t : Th} (ht : T[i]? = some t) (hj : j < t.l.length) : clOf T i j ∈ t.l := by
  rw [clOf_at ht]
  simp [List.getD, hj]
theorem mR_kept {T : List Th} (hwf : WF T) (r : Nat → Cl) : Kpt T (mR T r) := by
  intro i t j ht hm hj hp
  obtain ⟨k, u, hu, hn⟩ := hwf i t ht _ (clOf_mem ht hj) hp
  exact ⟨k, u, hu, hn, (mR_iff T r k).2 (.step ((mR_iff T r i).1 hm) ht hj hp ⟨u, hu, hn⟩)⟩
/-- The roots while they are gone through. -/
def rF (r : Nat → Cl) (i : Nat) : Nat → Cl := fun j => if j < i ∧ (r j).ptr = true then ⟨true, (r j).n + farN⟩ else r j
def rG (m : Nat → Bool) (T : List Th) (r : Nat → Cl) (i : Nat) : Nat → Cl := fun j => if j < i then newC m T (r j) else rF r 6 j
theorem range_next {i x : Nat} {rest : List Nat} (h : List.range 6 = List.range i ++ x :: rest) : x = i ∧ i < 6 := by
  have hl := congrArg List.length h
  simp at hl
  have hi : i < 6 := by omega
  have h1 : (List.range 6)[i]? = some i := by simp [hi]
  rw [h, List.getElem?_append_right (by simp)] at h1
  simp at h1
  exact ⟨h1, hi⟩
theorem range_inj {i : Nat} (h : List.range 6 = List.range i) : i = 6 := by
  have hl := congrArg List.length h
  simpa using hl.symm
end Hp

/-- While the roots are marked. -/
structure R1I (B hb g N lx cb : Nat) (T : List Th) (r : Nat → Cl) (pre : List Nat) (O1 : Nat → Prop) (W : World) : Prop where
  own : ∀ k, O1 k ↔ k = g ∨ k = cb
  hp : W.heap[B]? = some (.cells #[.pointer (some ⟨hb, 0, none⟩)] 23 (0, 0))
  lx : LRd lx cb [] W
  st : ∃ i f p, pre = List.range i ∧ HM W hb g N f (used T) ∧ Lay T f (gM T ⟨p, []⟩) ∧ Inv T (Rch T (roL r)) ⟨p, []⟩ ∧ (∀ j, j < i → ∀ k, (r j).ptr = true → Is T (r j).n k → p k ≠ none) ∧ RtsM W cb (rF r i)
/-- While the roots are made new. -/
structure R2I (B hb g N lx cb : Nat) (T : List Th) (m : Nat → Bool) (r : Nat → Cl) (f : Nat → PC) (pre : List Nat) (O1 : Nat → Prop) (W : World) : Prop where
  own : ∀ k, O1 k ↔ k = cb
  hp : W.heap[B]? = some (.cells #[.pointer (some ⟨hb, 0, none⟩)] 23 (0, 0))
  lx : LRd lx cb [] W
  hm : HM W hb g N f (used T)
  st : ∃ i, pre = List.range i ∧ RtsM W cb (rG m T r i)

set_option maxRecDepth 100000 in
set_option maxHeartbeats 8000000 in
theorem Collect_any (w : World) (hb g N : Nat) (T : List Th) (f : Nat → PC) (H : HM w hb g N f (used T)) (hL : Lay T f (g0 T)) (hwf : WF T) (lx cb : Nat) (r : Nat → Cl) (hr : RtsM w cb r) (hlx : LRd lx cb [] w) (hrv : RV T r) (hcg : cb ≠ g) (hch : cb ≠ hb) (hlg : lx ≠ g) (hlh : lx ≠ hb) (hlc : lx ≠ cb) :
    Calls Try.prog 13 #[.pointer (some ⟨hb, 0, none⟩), .func (.func 17) #[] #[.pointer (some ⟨lx, 0, none⟩)]] w fun e w' => e = .returned (.int .i64 (used (coll (mR T r) T) : Nat)) ∧ (∃ f', HM w' hb g N f' (used (coll (mR T r) T)) ∧ Lay (coll (mR T r) T) f' (g0 (coll (mR T r) T))) ∧ RtsM w' cb (fun i => newC (mR T r) T (r i)) ∧ Ch (fun k => k = g ∨ k = hb ∨ k = cb) w w' := by
  have hhl : hb < w.heap.size := (Array.getElem?_eq_some_iff.1 H.hd).1
  have hgl : g < w.heap.size := (Array.getElem?_eq_some_iff.1 H.row).1
  have hcl : cb < w.heap.size := (Array.getElem?_eq_some_iff.1 hr).1
  have hll : lx < w.heap.size := (Array.getElem?_eq_some_iff.1 (show w.heap[lx]? = some _ from hlx)).1
  have hhg := H.ne
  refine (callsIn_wide (n := 0)).1 ?_
  refine callsIn_of_wp_marks Try.func13 rfl trivial ?_ rfl
  simp only [Try.ntmps13, List.size_toArray, List.length_cons, List.length_nil, Nat.reduceAdd, Nat.reduceSub, Array.replicate_succ, Array.replicate_zero, List.push_toArray, List.append_toArray, List.nil_append, List.cons_append]
  have hnil : ∀ W : World, Sem.run Try.prog (binOp BinOp.eql 37 (.func (.func 17) #[] #[.pointer (some ⟨lx, 0, none⟩)]) .nilFunc) W = .ok (.bool false) W := fun W => by kernel_rfl
  gi_wp2
  clear hnil
  obtain ⟨W0, hW0⟩ : ∃ W0, w.alloc (.cells #[.pointer (some ⟨hb, 0, none⟩)] 23) = W0 := ⟨_, rfl⟩
  have hc0 : Ch (fun _ => False) w W0 := by rw [← hW0]; exact (Ch.refl _ w).al _
  have hs0 : W0.heap.size = w.heap.size + 1 := by rw [← hW0]; simp
  have b0 : W0.heap[w.heap.size]? = some (.cells #[.pointer (some ⟨hb, 0, none⟩)] 23 (0, 0)) := by rw [← hW0]; exact World.alloc_heap_new w _
  rw [hW0]
  clear hW0
  have H0 := H.keep hc0
  have hr0 : RtsM W0 cb r := (hc0.same cb hcl (fun h => h)).trans hr
  have hx0 : LRd lx cb [] W0 := (hc0.same lx hll (fun h => h)).trans hlx
  generalize hBB : w.heap.size = B at *
  refine wp_rangeR (gf := 17) (bd := #[]) (lb := #[.pointer (some ⟨lx, 0, none⟩)]) (encs := fun i : Nat => #[.pointer (some ⟨cb, i * 2, none⟩)]) (xs := List.range 6) (Rd := LRd lx cb) (O := fun k => k = g ∨ k = cb) rfl (enters_of Try.func17 (by kernel_rfl) rfl)
    (fun W1 _ => ranged_goes W1 lx cb) (fun _ => rfl) (R1I B hb g N lx cb T r) (fun pre O1 W h => h.lx) ?owns ?start (fun x => { tmps := #[.pointer (some ⟨hb, 0, none⟩), .func (.func 17) #[] #[.pointer (some ⟨lx, 0, none⟩)], .pointer (some ⟨B, 0, none⟩), undef, .int .i64 0, .pointer (some ⟨cb, x * 2, none⟩), undef, undef, .func (.func 17) #[] #[.pointer (some ⟨lx, 0, none⟩)], .bool false, .func (.func 17) #[] #[.pointer (some ⟨lx, 0, none⟩)], .pointer (some ⟨cb, x * 2, none⟩), undef, undef, undef, undef, undef, undef, undef, undef, undef, undef, undef, undef, undef, undef, undef, undef, undef, undef, undef], defers := [] }) ?assign ?body ?done
  case owns =>
    refine ⟨?_, ?_⟩
    · rintro pre O1 W W' ⟨ho, hp, hx, i, f1, p, rfl, H1, hL1, hI, hmk, hrt⟩ heo hsz hsm
      exact ⟨ho, (hsm B (.inr (by omega))).trans hp, (hsm lx (.inr (by omega))).trans hx, i, f1, p, rfl, ⟨(hsm hb (.inr (by omega))).trans H1.hd, (hsm g (.inr (by omega))).trans H1.row, H1.ne, H1.le, H1.max⟩, hL1, hI, hmk, (hsm cb (.inr (by omega))).trans hrt⟩
    · rintro pre O1 W k ⟨ho, hp, hx, i, f1, p, rfl, H1, hL1, hI, hmk, hrt⟩ hk
      rcases (ho k).1 hk with rfl | rfl
      · exact (Array.getElem?_eq_some_iff.1 H1.row).1
      · exact (Array.getElem?_eq_some_iff.1 hrt).1
  case start =>
    refine ⟨fun _ => Iff.rfl, b0, hx0, 0, f, fun _ => none, rfl, H0, hL.as (fun i _ _ k _ => (gM_none T i k).symm), inv_none T _, fun j hj => by omega, ?_⟩
    have e : rF r 0 = r := by funext j; simp [rF]
    rw [e]
    exact hr0
  case assign =>
    intro l2 x X K hK
    simp only [List.zip_toArray, List.foldl_toArray, List.zip_cons_cons, List.zip_nil_right, List.foldl_cons, List.foldl_nil, List.setIfInBounds_toArray, List.set_cons_zero, List.set_cons_succ]
    gi_wp2
    exact hK
  case body =>
    rintro l2 pre x O1 W ⟨ho, hp, hx, i, f1, p, rfl, H1, hL1, hI, hmk, hrt⟩ ⟨rest, hxs⟩ - hc
    obtain ⟨rfl, hi6⟩ := range_next hxs
    have hB0 : W.cell? ⟨B, 0, none⟩ = some (.pointer (some ⟨hb, 0, none⟩)) := by unfold World.cell?; rw [hp]; rfl
    have HR := hrt.at hi6
    have er : rF r x x = r x := by simp [rF]
    rw [er] at HR
    cases hpt : (r x).ptr with
    | false =>
      rw [hpt] at HR
      have HC := reach_none W hb g N f1 (used T) H1 cb (x * 2) (rowR (rF r x)) 43 false (r x).n HR (.inl rfl)
      have FIN : ∀ W2, Ch (fun _ => False) W W2 → ∃ O2, R1I B hb g N lx cb T r (List.range x ++ [x]) O2 W2 ∧ Ch O1 W W2 ∧ ∀ k, O2 k → O1 k ∨ W.heap.size ≤ k := by
        intro W2 hc2
        have hlt : ∀ {b : Nat} {o : Obj}, W.heap[b]? = some o → W2.heap[b]? = some o := fun h => (hc2.same _ (Array.getElem?_eq_some_iff.1 h).1 (fun h => h)).trans h
        refine ⟨O1, ⟨ho, hlt hp, hlt hx, x + 1, f1, p, List.range_succ.symm, H1.keep hc2, hL1, hI, fun j hj k hj1 hj2 => ?_, ?_⟩, hc2.mono (fun _ h => h.elim), fun k hk => .inl hk⟩
        · by_cases e : j = x
          · subst e; rw [hpt] at hj1; cases hj1
          · exact hmk j (by omega) k hj1 hj2
        · have e : rF r (x + 1) = rF r x := by
            funext j
            by_cases e : j = x
            · subst e; simp [rF, hpt]
            · have : j < x + 1 ↔ j < x := by omega
              simp [rF, this]
          rw [e]
          exact hlt hrt
      replace FIN := hid FIN
      clear ho H1 hL1 hI hmk hrt HR hp hx H hL H0 hr hlx hr0 hx0 b0 hc0 hc
      gi_wp2_with (refine ⟨rfl, (CallsIn.inRound l2 (callsIn_wide.2 HC)).mono ?_⟩; clear HC; rintro e W2 ⟨rfl, hc2⟩; dsimp only)
      exact FIN.out _ hc2
    | true =>
      rw [hpt] at HR
      obtain ⟨k, t, ht, hn⟩ := hrv x hi6 hpt
      rw [hn] at HR
      have hRk : Rch T (roL r) k := .root ((mem_roL r).2 ⟨x, hi6, rfl⟩) hpt ⟨t, ht, hn⟩
      have HC := reach_some W hb g N T (Rch T (roL r)) p k t f1 H1 hL1 hI ht hwf hRk (fun i u j m' h1 h2 h3 h4 h5 => .step h1 h2 h3 h4 h5) cb (x * 2) (rowR (rF r x)) 43 HR hcg hch
      have FIN : ∀ W2, (∃ f' p', HM W2 hb g N f' (used T) ∧ Lay T f' (gM T ⟨p', []⟩) ∧ Inv T (Rch T (roL r)) ⟨p', []⟩ ∧ (∀ i, p i ≠ none → p' i ≠ none) ∧ p' k ≠ none) → W2.heap[cb]? = some (.cells ((rowR (rF r x)).setIfInBounds (x * 2 + 1) (.int .i64 ((ad T k : Nat) + farN))) 43 (0, 0)) → Ch (fun k => k = g ∨ k = cb) W W2 → ∃ O2, R1I B hb g N lx cb T r (List.range x ++ [x]) O2 W2 ∧ Ch O1 W W2 ∧ ∀ k, O2 k → O1 k ∨ W.heap.size ≤ k := by
        rintro W2 ⟨f', p', h1, h2, h3, h4, h5⟩ hcb hc2
        refine ⟨O1, ⟨ho, (hc2.same B (Array.getElem?_eq_some_iff.1 hp).1 (by omega)).trans hp, (hc2.same lx (Array.getElem?_eq_some_iff.1 (show W.heap[lx]? = some _ from hx)).1 (by omega)).trans hx, x + 1, f', p', List.range_succ.symm, h1, h2, h3, fun j hj k' hj1 hj2 => ?_, ?_⟩, hc2.mono (fun k hk => (ho k).2 hk), fun k hk => .inl hk⟩
        · by_cases e : j = x
          · subst e
            rw [hj2.one ⟨t, ht, hn⟩]
            exact h5
          · exact h4 k' (hmk j (by omega) k' hj1 hj2)
        · unfold RtsM
          rw [hcb, rowR_set (rF r x) (rF r (x + 1)) hi6 _ (by rw [er]; simp [rF, hpt, hn]) (fun j hj => by
            have : j < x + 1 ↔ j < x := by omega
            simp [rF, this])]
      replace FIN := hid FIN
      clear ho H1 hL1 hI hmk hrt HR hp hx H hL H0 hr hlx hr0 hx0 b0 hc0 hc hRk
      gi_wp2_with (refine ⟨rfl, (CallsIn.inRound l2 (callsIn_wide.2 HC)).mono ?_⟩; clear HC; rintro e W2 ⟨rfl, h2a, h2b, h2c⟩; dsimp only)
      exact FIN.out _ h2a h2b h2c
  case done =>
    rintro D1 O2 W1 hD1 hn1 ⟨ho, hp1, hx1, i, f1, p, hpre, H1, hL1, hI, hmk, hrt⟩ hc1 hsub1 hk1
    obtain rfl := range_inj hpre
    have hmR : ∀ k, mR T r k = true ↔ p k ≠ none := fun k => (mR_iff T r k).trans (marked_reached hI (fun c hc hcp i' hi' => by
      obtain ⟨j, hj, rfl⟩ := (mem_roL r).1 hc
      exact hmk j hj i' hcp hi') k).symm
    have hL1' : Lay T f1 (gS (mR T r) T 0) := hL1.as (fun i' t ht k _ => gM_settle hI hmR i' k t ht)
    have hKp := mR_kept hwf r
    have HS := settle_any W1 hb g N T (mR T r) f1 H1 hL1'
    have h0 : W1.cell? ⟨B, 0, none⟩ = some (.pointer (some ⟨hb, 0, none⟩)) := by unfold World.cell?; rw [hp1]; rfl
    have hD1l : D1 < W1.heap.size := (Array.getElem?_eq_some_iff.1 hk1).1
    have hz1 := hc1.size
    have hrm : ∀ j, j < 6 → (r j).ptr = true → ∃ k t, T[k]? = some t ∧ (r j).n = (ad T k : Nat) ∧ mR T r k = true := fun j hj hjp => by
      obtain ⟨k, t, ht, hn⟩ := hrv j hj hjp
      exact ⟨k, t, ht, hn, (mR_iff T r k).2 (.root ((mem_roL r).2 ⟨j, hj, rfl⟩) hjp ⟨t, ht, hn⟩)⟩
    generalize hmm : mR T r = m at *
    -- what is left, behind refer
    have GO : ∀ (W3 : World) (f3 : Nat → PC), HM W3 hb g N f3 (used T) → Lay T f3 (gR m T T.length 0) → Ch (fun k => k = g) W1 W3 → W3.heap[B]? = some (.cells #[.pointer (some ⟨hb, 0, none⟩)] 23 (0, 0)) ∧ LRd lx cb [] W3 ∧ RtsM W3 cb (rF r 6) ∧ W3.heap[D1]? = some (.deferred (some [])) ∧ Ch (fun k => k = g ∨ k = cb) W0 W3 := by
      intro W3 f3 _ _ h13
      have hlt : ∀ {b : Nat} {o : Obj}, W1.heap[b]? = some o → b ≠ g → W3.heap[b]? = some o := fun h hb' => (h13.same _ (Array.getElem?_eq_some_iff.1 h).1 hb').trans h
      exact ⟨hlt hp1 (by omega), hlt hx1 hlg, hlt hrt hcg, hlt hk1 (by omega), hc1.trans h13 (fun k hk => .inl (.inl hk))⟩
    replace GO := hid GO
    have hc1' := hid hc1
    clear hL1 hL1' hI hmk hrt hp1 hx1 H1 H hL H0 hr hlx hr0 hx0 b0 hk1 ho hsub1 hmR hpre hn1 hc1
    gi_wp2_with (first
      | (refine ⟨rfl, (callsIn_wide.2 HS).mono ?_⟩; clear HS; rintro e W2 ⟨rfl, ⟨f2, H2, hL2⟩, hc2⟩; dsimp only
         have HRf := refer_any W2 hb g N T m f2 H2 (hL2.as (fun i t ht k _ => gS_refer i k t ht)) hKp
         have h0b : W2.cell? ⟨B, 0, none⟩ = some (.pointer (some ⟨hb, 0, none⟩)) := by rw [← h0]; exact World.cell?_of_block (hc2.same B (by omega) (by omega))
         clear h0
         clear H2 hL2)
      | (refine ⟨rfl, (callsIn_wide.2 HRf).mono ?_⟩; clear HRf; rintro e W3 ⟨rfl, ⟨f3, H3, hL3⟩, hc3⟩; dsimp only))
    obtain ⟨b3, x3, r3, k3, c03⟩ := GO.out W3 f3 H3 hL3 (hc2.trans hc3 (fun _ h => .inl h))
    have hz2 := hc2.size
    have hz3 := hc3.size
    clear GO h0b hc2 hc3 hc1'
    refine wp_rangeR (gf := 17) (bd := #[]) (lb := #[.pointer (some ⟨lx, 0, none⟩)]) (encs := fun i : Nat => #[.pointer (some ⟨cb, i * 2, none⟩)]) (xs := List.range 6) (Rd := LRd lx cb) (O := fun k => k = cb) rfl (enters_of Try.func17 (by kernel_rfl) rfl)
      (fun W1 _ => ranged_goes W1 lx cb) (fun _ => rfl) (R2I B hb g N lx cb T m r f3) (fun pre O1 W h => h.lx) ?owns ?start (fun x => { tmps := #[.pointer (some ⟨hb, 0, none⟩), .func (.func 17) #[] #[.pointer (some ⟨lx, 0, none⟩)], .pointer (some ⟨B, 0, none⟩), undef, .int .i64 0, undef, .int .i64 (nad m T T.length : Nat), .pointer (some ⟨cb, x * 2, none⟩), .func (.func 17) #[] #[.pointer (some ⟨lx, 0, none⟩)], .bool false, .func (.func 17) #[] #[.pointer (some ⟨lx, 0, none⟩)], undef, undef, undef, undef, .pointer (some ⟨hb, 0, none⟩), .int .i64 (nad m T T.length : Nat), .pointer (some ⟨hb, 0, none⟩), .tuple #[], .func (.func 17) #[] #[.pointer (some ⟨lx, 0, none⟩)], .pointer (some ⟨cb, x * 2, none⟩), undef, undef, undef, undef, undef, undef, undef, undef, undef, undef], defers := [] }) ?assign ?body ?done
    case owns =>
      refine ⟨?_, ?_⟩
      · rintro pre O1 W W' ⟨ho, hp, hx, H1, i, rfl, hrt⟩ heo hsz hsm
        exact ⟨ho, (hsm B (.inr (by omega))).trans hp, (hsm lx (.inr (by omega))).trans hx, ⟨(hsm hb (.inr (by omega))).trans H1.hd, (hsm g (.inr (by omega))).trans H1.row, H1.ne, H1.le, H1.max⟩, i, rfl, (hsm cb (.inr (by omega))).trans hrt⟩
      · rintro pre O1 W k ⟨ho, hp, hx, H1, i, rfl, hrt⟩ hk
        rw [(ho k).1 hk]
        exact (Array.getElem?_eq_some_iff.1 hrt).1
    case start =>
      refine ⟨fun _ => Iff.rfl, b3, x3, H3, 0, rfl, ?_⟩
      have e : rG m T r 0 = rF r 6 := by funext j; simp [rG]
      rw [e]
      exact r3
    case assign =>
      intro l2 x X K hK
      simp only [List.zip_toArray, List.foldl_toArray, List.zip_cons_cons, List.zip_nil_right, List.foldl_cons, List.foldl_nil, List.setIfInBounds_toArray, List.set_cons_zero, List.set_cons_succ]
      gi_wp2
      exact hK
    case body =>
      rintro l2 pre x O1 W ⟨ho, hp, hx, H1, i, rfl, hrt⟩ ⟨rest, hxs⟩ - hc
      obtain ⟨rfl, hi6⟩ := range_next hxs
      have hB0 : W.cell? ⟨B, 0, none⟩ = some (.pointer (some ⟨hb, 0, none⟩)) := by unfold World.cell?; rw [hp]; rfl
      have HR := hrt.at hi6
      have er : rG m T r x x = rF r 6 x := by simp [rG]
      rw [er] at HR
      have eoth : ∀ j, j ≠ x → rG m T r (x + 1) j = rG m T r x j := fun j hj => by
        have : j < x + 1 ↔ j < x := by omega
        simp [rG, this]
      cases hpt : (r x).ptr with
      | false =>
        have e1 : rF r 6 x = r x := by simp [rF, hpt]
        rw [e1, hpt] at HR
        have HC := follow_none W hb g N f3 (used T) H1 cb (x * 2) (rowR (rG m T r x)) 43 false (r x).n HR (.inl rfl)
        have FIN : ∀ W2, Ch (fun _ => False) W W2 → ∃ O2, R2I B hb g N lx cb T m r f3 (List.range x ++ [x]) O2 W2 ∧ Ch O1 W W2 ∧ ∀ k, O2 k → O1 k ∨ W.heap.size ≤ k := by
          intro W2 hc2
          have hlt : ∀ {b : Nat} {o : Obj}, W.heap[b]? = some o → W2.heap[b]? = some o := fun h => (hc2.same _ (Array.getElem?_eq_some_iff.1 h).1 (fun h => h)).trans h
          refine ⟨O1, ⟨ho, hlt hp, hlt hx, H1.keep hc2, x + 1, List.range_succ.symm, ?_⟩, hc2.mono (fun _ h => h.elim), fun k hk => .inl hk⟩
          have e : rG m T r (x + 1) = rG m T r x := by
            funext j
            by_cases e : j = x
            · subst e; simp [rG, e1, newC, hpt]
            · exact eoth j e
          rw [e]
          exact hlt hrt
        replace FIN := hid FIN
        clear ho H1 hrt HR hp hx b3 x3 r3 k3 H3 hL3 hc c03 hc0
        gi_wp2_with (refine ⟨rfl, (CallsIn.inRound l2 (callsIn_wide.2 HC)).mono ?_⟩; clear HC; rintro e W2 ⟨rfl, hc2⟩; dsimp only)
        exact FIN.out _ hc2
      | true =>
        obtain ⟨k, t, ht, hn, hmk⟩ := hrm x hi6 hpt
        have e1 : rF r 6 x = ⟨true, (ad T k : Nat) + farN⟩ := by simp [rF, hpt, hi6, hn]
        rw [e1] at HR
        have hfk : f3 (ad T k) = ⟨3, t.kind, t.tag, (t.l.length : Nat), (nad m T k : Nat)⟩ := by
          have := hL3 k t ht 0 (Nat.zero_le _)
          rw [Nat.add_zero] at this
          rw [this]
          simp [gR, headC, hmk, thOf_at ht]
        have hak : ad T k < used T := by
          have := ad_used ht
          have : t.size = t.l.length + 1 := rfl
          omega
        have HC := follow_some W hb g N f3 (used T) H1 cb (x * 2) (rowR (rG m T r x)) 43 (ad T k) (nad m T k) _ _ _ HR hak hfk hcg hch
        have FIN : ∀ W2, HM W2 hb g N f3 (used T) → W2.heap[cb]? = some (.cells ((rowR (rG m T r x)).setIfInBounds (x * 2 + 1) (.int .i64 (nad m T k : Nat))) 43 (0, 0)) → Ch (fun k => k = cb) W W2 → ∃ O2, R2I B hb g N lx cb T m r f3 (List.range x ++ [x]) O2 W2 ∧ Ch O1 W W2 ∧ ∀ k, O2 k → O1 k ∨ W.heap.size ≤ k := by
          intro W2 h1 hcb hc2
          refine ⟨O1, ⟨ho, (hc2.same B (Array.getElem?_eq_some_iff.1 hp).1 (by omega)).trans hp, (hc2.same lx (Array.getElem?_eq_some_iff.1 (show W.heap[lx]? = some _ from hx)).1 hlc).trans hx, h1, x + 1, List.range_succ.symm, ?_⟩, hc2.mono (fun k hk => (ho k).2 hk), fun k hk => .inl hk⟩
          unfold RtsM
          rw [hcb, rowR_set (rG m T r x) (rG m T r (x + 1)) hi6 _ (by
            rw [er, e1]
            simp only [rG, newC, hpt, new, idx_is (show Is T (r x).n k from ⟨t, ht, hn⟩)]
            simp) eoth]
        replace FIN := hid FIN
        clear ho H1 hrt HR hp hx b3 x3 r3 k3 H3 hL3 hc c03 hc0
        gi_wp2_with (refine ⟨rfl, (CallsIn.inRound l2 (callsIn_wide.2 HC)).mono ?_⟩; clear HC; rintro e W2 ⟨rfl, h2a, h2b, h2c⟩; dsimp only)
        exact FIN.out _ h2a h2b h2c
    case done =>
      rintro D2 O3 W4 hD2 hn2 ⟨ho, hp4, hx4, H4, i, hpre, r4⟩ hc4 hsub2 hk2
      obtain rfl := range_inj hpre
      have HS := slide_any W4 hb g N T m f3 H4 hL3
      have h0 : W4.cell? ⟨B, 0, none⟩ = some (.pointer (some ⟨hb, 0, none⟩)) := by unfold World.cell?; rw [hp4]; rfl
      have hD2l : D2 < W4.heap.size := (Array.getElem?_eq_some_iff.1 hk2).1
      have hz4 := hc4.size
      have k4 : W4.heap[D1]? = some (.deferred (some [])) := (hc4.same D1 (by omega) (by omega)).trans k3
      gi_wp2_with (refine ⟨rfl, (callsIn_wide.2 HS).mono ?_⟩; clear HS; rintro e W5 ⟨rfl, ⟨f5, H5, hL5⟩, hc5⟩; dsimp only
                   have hD0 : W5.cell? ⟨B, 0, none⟩ = some (.pointer (some ⟨hb, 0, none⟩)) := by rw [← h0]; exact World.cell?_of_block (hc5.same B (by omega) (by omega))
                   obtain ⟨-, hu5, hf5⟩ := H5.head
                   replace hf5 := hf5 1
                   clear h0)
      have hcu := coll_used m T
      have hnl := nad_le m T T.length (Nat.le_refl _)
      rw [ad_all] at hnl
      have hz5 := hc5.size
      have k15 : W5.heap[D1]? = some (.deferred (some [])) := (hc5.same D1 (by omega) (by omega)).trans k4
      have k25 : W5.heap[D2]? = some (.deferred (some [])) := (hc5.same D2 hD2l (by omega)).trans hk2
      have r5 : RtsM W5 cb (rG m T r 6) := (hc5.same cb (by omega) hcg).trans r4
      have er : rowR (rG m T r 6) = rowR (fun i => newC m T (r i)) := rowR_ext (fun i hi => by simp [rG, hi])
      rw [hcu]
      have HY : HM (W5.setCell ⟨hb, 1, none⟩ (.int .i64 (nad m T T.length : Nat))) hb g N f5 (nad m T T.length) := ⟨blk_set H5.hd, blk_other H5.row (Ne.symm hhg), hhg, by have := H5.le; omega, H5.max⟩
      have hcY : Ch (fun k => k = hb) W5 (W5.setCell ⟨hb, 1, none⟩ (.int .i64 (nad m T T.length : Nat))) := Ch.setCell _ _ _ rfl
      have hwY : Ch (fun k => k = g ∨ k = hb ∨ k = cb) w (W5.setCell ⟨hb, 1, none⟩ (.int .i64 (nad m T T.length : Nat))) := (((((hc0.mono (fun _ h => h.elim)).trans c03 (fun k hk => by omega)).trans hc4 (fun k hk => .inl (.inr (.inr hk)))).trans hc5 (fun k hk => .inl (.inl hk))).trans hcY (fun k hk => .inl (.inr (.inl hk))))
      have y1 := (hcY.same D1 (by omega) (by omega)).trans k15
      have y2 := (hcY.same D2 (by omega) (by omega)).trans k25
      have yr : RtsM (W5.setCell ⟨hb, 1, none⟩ (.int .i64 (nad m T T.length : Nat))) cb (fun i => newC m T (r i)) := by
        have := (hcY.same cb (by omega) hch).trans r5
        rw [er] at this
        exact this
      have hzY := hcY.size
      generalize W5.setCell ⟨hb, 1, none⟩ (.int .i64 (nad m T T.length : Nat)) = Y at HY hwY y1 y2 yr hzY ⊢
      have hc6 : Ch (fun k => k = D2) Y (Y.putObj D2 (.deferred none)) := Ch.put _ _ _ rfl
      have y1' := (hc6.same D1 (by omega) (by omega)).trans y1
      have hc7 : Ch (fun k => k = D1) (Y.putObj D2 (.deferred none)) ((Y.putObj D2 (.deferred none)).putObj D1 (.deferred none)) := Ch.put _ _ _ rfl
      refine ⟨by simp, .inl ⟨_, _, rfl, run_takeDeferred y2, by simp, .inl ⟨_, _, rfl, run_takeDeferred y1', ?_⟩⟩⟩
      have hall : ∀ {b : Nat} {o : Obj}, Y.heap[b]? = some o → b < B → ((Y.putObj D2 (.deferred none)).putObj D1 (.deferred none)).heap[b]? = some o := fun h hb' => ((hc7.same _ (by have := hc6.size; omega) (by omega)).trans (hc6.same _ (by omega) (by omega))).trans h
      refine ⟨_, results_tmp rfl _ _ _, rfl, ⟨f5, ⟨hall HY.hd hhl, hall HY.row hgl, HY.ne, HY.le, HY.max⟩, hL5⟩, hall yr hcl, (hwY.trans hc6 (fun i h => .inr (by omega))).trans hc7 (fun i h => .inr (by omega))⟩
end Go.Proofs.Ytidgppghakmkaaa
