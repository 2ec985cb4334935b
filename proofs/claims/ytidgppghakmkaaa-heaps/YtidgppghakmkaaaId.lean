/-
  The program's Make.
-/
import Derived.Test.YtidgppghakmkaaaIc
set_option linter.unusedVariables false
set_option linter.unusedSimpArgs false
namespace Go.Proofs.Ytidgppghakmkaaa
open scoped Classical
open Go.RowKit Go.Shelf Hp
attribute [local simp] wide_fn

namespace Hp
/-- The things and the roots that Make goes on with. -/
def mkT (T : List Th) (r : Nat → Cl) [∀ k, Decidable (Rch T (roL r) k)] (N n : Nat) : List Th := if used T + n + 1 ≤ N then T else coll (mR T r) T
def mkR (T : List Th) (r : Nat → Cl) [∀ k, Decidable (Rch T (roL r) k)] (N n : Nat) : Nat → Cl := if used T + n + 1 ≤ N then r else fun i => newC (mR T r) T (r i)
end Hp
theorem clear0 (ty : TypeId) (b : Option Addr) (cap : Nat) (W : World) : (Builtin.clear_ #[54] ty #[.slice b 0 cap]).run Try.prog W = .ok (.tuple #[]) W := by
  simp only [Builtin.clear_]
  cases b <;> simp [run_underlying Try.underlying54]
/-- Behind the room: the head is written, and what is used. -/
theorem make_head {W : World} {hb g N : Nat} {f : Nat → PC} {u : Nat} (H : HM W hb g N f u) (kind tag : Int) (n : Nat) (hfit : u + n + 1 ≤ N) :
    HM (put5 (W.setCell ⟨hb, 1, none⟩ (.int .i64 ((u : Int) + ((n : Int) + 1)))) g u ⟨2, kind, tag, (n : Nat), 0⟩) hb g N (Hp.upd f u ⟨2, kind, tag, (n : Nat), 0⟩) (u + (n + 1)) ∧ Ch (fun k => k = g ∨ k = hb) W (put5 (W.setCell ⟨hb, 1, none⟩ (.int .i64 ((u : Int) + ((n : Int) + 1)))) g u ⟨2, kind, tag, (n : Nat), 0⟩) := by
  have e : (u : Int) + ((n : Int) + 1) = ((u + (n + 1) : Nat) : Int) := by omega
  rw [e]
  have H1 : HM (W.setCell ⟨hb, 1, none⟩ (.int .i64 ((u + (n + 1) : Nat) : Int))) hb g N f (u + (n + 1)) := ⟨blk_set H.hd, blk_other H.row (Ne.symm H.ne), H.ne, by omega, H.max⟩
  obtain ⟨h1, h2⟩ := H1.put ⟨2, kind, tag, (n : Nat), 0⟩ (a := u) (by omega)
  exact ⟨h1, (Ch.setCell (O := fun k => k = g ∨ k = hb) W ⟨hb, 1, none⟩ _ (.inr rfl)).trans h2 (fun k hk => .inl (.inl hk))⟩
theorem make_lay {T : List Th} {f : Nat → PC} (hL : Lay T f (g0 T)) (kind tag : Int) (n : Nat) : Lay (T ++ [newTh kind tag n]) (clr (Hp.upd f (used T) ⟨2, kind, tag, (n : Nat), 0⟩) (used T + 1) n) (g0 (T ++ [newTh kind tag n])) := by
  refine hL.snoc kind tag n (fun x hx => ?_) ?_ (fun j hj => ?_)
  · have : ¬ (used T + 1 ≤ x ∧ x < used T + 1 + n) := by omega
    simp only [clr, if_neg this, Hp.upd, if_neg (show ¬ x = used T by omega)]
  · have : ¬ (used T + 1 ≤ used T ∧ used T < used T + 1 + n) := by omega
    simp only [clr, if_neg this, Hp.upd, if_true]
  · have : used T + 1 ≤ used T + 1 + j ∧ used T + 1 + j < used T + 1 + n := by omega
    simp only [clr, if_pos this]
theorem clr_zero (f : Nat → PC) (a : Nat) : clr f a 0 = f := by
  funext x
  have : ¬ (a ≤ x ∧ x < a + 0) := by omega
  simp only [clr, if_neg this]
def MakePost (w : World) (hb g N : Nat) (cb : Nat) (T1 : List Th) (r1 : Nat → Cl) (kind tag : Int) (n : Nat) (e : Ending) (w' : World) : Prop :=
  ((used T1 + n + 1 ≤ N ∧ e = .returned (.tuple #[.int .i64 (used T1 : Nat), .int .i64 0]) ∧ ∃ f', HM w' hb g N f' (used (T1 ++ [newTh kind tag n])) ∧ Lay (T1 ++ [newTh kind tag n]) f' (g0 (T1 ++ [newTh kind tag n]))) ∨
   (¬ (used T1 + n + 1 ≤ N) ∧ e = .returned (.tuple #[.int .i64 0, .int .i64 18]) ∧ ∃ f', HM w' hb g N f' (used T1) ∧ Lay T1 f' (g0 T1))) ∧ RtsM w' cb r1 ∧ Ch (fun k => k = g ∨ k = hb ∨ k = cb) w w'

set_option maxRecDepth 100000 in
set_option maxHeartbeats 8000000 in
theorem Make_any (w : World) (hb g N : Nat) (T : List Th) (f : Nat → PC) (H : HM w hb g N f (used T)) (hL : Lay T f (g0 T)) (hwf : WF T) (lx cb : Nat) (r : Nat → Cl) (hr : RtsM w cb r) (hlx : LRd lx cb [] w) (hrv : RV T r) (hcg : cb ≠ g) (hch : cb ≠ hb) (hlg : lx ≠ g) (hlh : lx ≠ hb) (hlc : lx ≠ cb)
    (kind tag : Int) (n : Nat) (hk : 0 ≤ kind ∧ kind ≤ 4) (ht : 0 ≤ tag ∧ tag ≤ 65535) (hn : n ≤ 1000000) :
    Calls Try.prog 6 #[.pointer (some ⟨hb, 0, none⟩), .int .i64 kind, .int .i64 tag, .int .i64 (n : Nat), .func (.func 17) #[] #[.pointer (some ⟨lx, 0, none⟩)]] w (MakePost w hb g N cb (mkT T r N n) (mkR T r N n) kind tag n) := by
  have hmx := H.max
  have hhg := H.ne
  have k1 : ¬ kind < 0 := by omega
  have k2 : ¬ 4 < kind := by omega
  have k3 : ¬ tag < 0 := by omega
  have k4 : ¬ 65535 < tag := by omega
  have k5 : ¬ (n : Int) < 0 := by omega
  have k6 : ¬ 1000000 < (n : Int) := by omega
  have u8w : IntKind.u8.wrap kind = kind := IntWalk.u8_in _ (by omega)
  have u16w : IntKind.u16.wrap tag = tag := IntWalk.u16_in _ (by omega)
  have u32w : IntKind.u32.wrap (n : Int) = (n : Int) := IntWalk.u32_in _ (by omega)
  have HR1 := room_any w hb g N f (used T) H n hn
  by_cases hfit : used T + n + 1 ≤ N
  · have e1 : mkT T r N n = T := by simp [mkT, hfit]
    have e2 : mkR T r N n = r := by simp [mkR, hfit]
    rw [e1, e2]
    have hd : decide (used T + n + 1 ≤ N) = true := by simp [hfit]
    rw [hd] at HR1
    have HH := hid H
    have hLT := hid hL
    have hr0 := hid hr
    have hfT := hfit
    clear H hL hr e1 e2 hd hwf hlx hrv
    have hws : IntKind.i64.wrap ((n : Int) + 1) = (n : Int) + 1 := IntWalk.i64_in _ (by omega)
    have hwu : IntKind.i64.wrap ((used T : Int) + ((n : Int) + 1)) = ((used T + (n + 1) : Nat) : Int) := by rw [IntWalk.i64_in _ (by omega)]; omega
    have hwa : IntKind.i64.wrap ((used T : Int) + 1) = ((used T + 1 : Nat) : Int) := by rw [IntWalk.i64_in _ (by omega)]; omega
    have haN : used T < N := by omega
    have haNI : (used T : Int) < (N : Int) := by omega
    go_enter Try.func6, Try.ntmps6
    go_wp2_with (first
      | (go_at_call 16; refine HR1.mono ?_; clear HR1; rintro e w1 ⟨rfl, hc1⟩; have H1 := hid (HH.out.keep hc1); have HR2 := room_any w1 hb g N f (used T) H1.out n hn; rw [show decide (used T + n + 1 ≤ N) = true by simp [hfit]] at HR2; replace hc1 := hid hc1; clear HH)
      | (go_at_call 16; refine HR2.mono ?_; clear HR2; rintro e w2 ⟨rfl, hc2⟩; have H2 := hid (H1.out.keep hc2); replace hc2 := hc1.out.trans hc2 (fun _ h => .inl h); have hr2 : Hid (RtsM w2 cb r) := (hc2.same cb (Array.getElem?_eq_some_iff.1 hr0.out).1 (fun h => h)).trans hr0.out; replace hc2 := hid (hc2.mono (O1 := fun k => k = g ∨ k = hb ∨ k = cb) (fun _ h => h.elim)); obtain ⟨h0, h1, hfr⟩ := H2.out.head; replace hfr := hfr 1; obtain ⟨c0, c1, c2, c3, c4⟩ := H2.out.five haN; have hgz := fun q => H2.out.fz q; clear H1 hc1 hr0))
    obtain ⟨HX, hcX⟩ := make_head H2.out kind tag n hfT
    have hcX2 : Ch (fun k => k = g ∨ k = hb ∨ k = cb) w _ := hc2.out.trans hcX (fun k hk => .inl (by omega))
    have hrX : RtsM _ cb r := (hcX.same cb (Array.getElem?_eq_some_iff.1 hr2.out).1 (by omega)).trans hr2.out
    have hLX := make_lay hLT.out kind tag n
    clear hcX c0 c1 c2 c3 c4 hgz h0 h1 hfr hc2 H2 hr2 hLT
    change Code.wp _ _ _ _ (put5 (w2.setCell ⟨hb, 1, none⟩ (.int .i64 ((used T : Int) + ((n : Int) + 1)))) g (used T) ⟨2, kind, tag, (n : Nat), 0⟩)
    generalize Hp.upd f (used T) ⟨2, kind, tag, (n : Nat), 0⟩ = f2 at HX hLX
    generalize put5 (w2.setCell ⟨hb, 1, none⟩ (.int .i64 ((used T : Int) + ((n : Int) + 1)))) g (used T) ⟨2, kind, tag, (n : Nat), 0⟩ = X at HX hcX2 hrX ⊢
    obtain ⟨h0, h1, -⟩ := HX.head
    have FIN : ∀ Y, HM Y hb g N (clr f2 (used T + 1) n) (used T + (n + 1)) → RtsM Y cb r → Ch (fun k => k = g ∨ k = hb ∨ k = cb) w Y → MakePost w hb g N cb T r kind tag n (.returned (.tuple #[.int .i64 (used T : Nat), .int .i64 0])) Y := fun Y h1 h2 h3 =>
      ⟨.inl ⟨hfT, rfl, _, by rw [used_snoc, newTh_size]; exact h1, hLX⟩, h2, h3⟩
    replace FIN := hid FIN
    have hKX := hid (And.intro HX (And.intro hcX2 hrX))
    clear HX hcX2 hrX hLX
    by_cases hn0 : n = 0
    · subst hn0
      have hclr := fun b cap W => clear0 0 b cap W
      have h1' : X.cell? ⟨hb, 1, none⟩ = some (.int .i64 ((used T : Nat) + 1 : Int)) := by rw [h1]; congr 2
      clear h1
      by_cases hN : N = used T + 1
      · skip
        refine wp_region_split 11 1 (by kernel_rfl) rfl (by kernel_rfl) (by kernel_rfl) (by kernel_rfl) ?_
        simp only [List.take_succ_cons, List.take_zero]
        repeat (gi_big_quiet_step (fail))
        refine wpQuietIn_nil ?_
        intro _ hw'
        obtain ⟨nq, hw''⟩ := hw'
        subst hw''
        refine wpAnyIn_ready (rs := [11]) (by kernel_rfl) (by simp) (AllReadyIn.cons rfl (fun K hK => ?_) AllReadyIn.nil)
        go_simp
        refine hK _ _ ?_
        clear hK K
        refine wpAnyIn_done (by kernel_rfl) ?_ _
        clear h0 h1' hclr
        go_wp2
        refine bodyPost_ret (v := .tuple #[.int .i64 (used T : Nat), .int .i64 0]) (by simp [results, Try.results6, go_sem]) rfl ?_
        exact FIN.out _ (by rw [clr_zero]; exact ⟨hKX.out.1.hd, hKX.out.1.row, hKX.out.1.ne, hKX.out.1.le, hKX.out.1.max⟩) hKX.out.2.2 ⟨hKX.out.2.1.size, hKX.out.2.1.same, hKX.out.2.1.eo⟩
      · skip
        refine wp_region_split 11 1 (by kernel_rfl) rfl (by kernel_rfl) (by kernel_rfl) (by kernel_rfl) ?_
        simp only [List.take_succ_cons, List.take_zero]
        repeat (gi_big_quiet_step (fail))
        refine wpQuietIn_nil ?_
        intro _ hw'
        obtain ⟨nq, hw''⟩ := hw'
        subst hw''
        refine wpAnyIn_ready (rs := [11]) (by kernel_rfl) (by simp) (AllReadyIn.cons rfl (fun K hK => ?_) AllReadyIn.nil)
        go_simp
        refine hK _ _ ?_
        clear hK K
        refine wpAnyIn_done (by kernel_rfl) ?_ _
        clear h0 h1' hclr
        go_wp2
        refine bodyPost_ret (v := .tuple #[.int .i64 (used T : Nat), .int .i64 0]) (by simp [results, Try.results6, go_sem]) rfl ?_
        exact FIN.out _ (by rw [clr_zero]; exact ⟨hKX.out.1.hd, hKX.out.1.row, hKX.out.1.ne, hKX.out.1.le, hKX.out.1.max⟩) hKX.out.2.2 ⟨hKX.out.2.1.size, hKX.out.2.1.same, hKX.out.2.1.eo⟩
    · have hN : ¬ N = used T + 1 := by omega
      have hclr := fun q => (HM.clear (w := X.drewN q) ⟨hKX.out.1.hd, hKX.out.1.row, hKX.out.1.ne, hKX.out.1.le, hKX.out.1.max⟩ (a := used T + 1) (n := n) (by omega) (by omega) 0 (N - (used T + 1))).1
      have h1' : X.cell? ⟨hb, 1, none⟩ = some (.int .i64 ((used T : Nat) + 1 + (n : Nat) : Int)) := by rw [h1]; congr 2; omega
      clear h1
      · skip
        refine wp_region_split 11 1 (by kernel_rfl) rfl (by kernel_rfl) (by kernel_rfl) (by kernel_rfl) ?_
        simp only [List.take_succ_cons, List.take_zero]
        repeat (gi_big_quiet_step (fail))
        refine wpQuietIn_nil ?_
        intro _ hw'
        obtain ⟨nq, hw''⟩ := hw'
        subst hw''
        refine wpAnyIn_ready (rs := [11]) (by kernel_rfl) (by simp) (AllReadyIn.cons rfl (fun K hK => ?_) AllReadyIn.nil)
        go_simp
        refine hK _ _ ?_
        clear hK K
        refine wpAnyIn_done (by kernel_rfl) ?_ _
        clear h0 h1' hclr
        go_wp2
        refine bodyPost_ret (v := .tuple #[.int .i64 (used T : Nat), .int .i64 0]) (by simp [results, Try.results6, go_sem]) rfl ?_
        obtain ⟨-, hY1, hY2⟩ := HM.clear (w := X.drewN nq) ⟨hKX.out.1.hd, hKX.out.1.row, hKX.out.1.ne, hKX.out.1.le, hKX.out.1.max⟩ (a := used T + 1) (n := n) (by omega) (by omega) 0 (N - (used T + 1))
        exact FIN.out _ hY1 ((setRow_other _ hcg).trans hKX.out.2.2) (Ch.trans (O := fun k => k = g ∨ k = hb ∨ k = cb) (b := X.drewN nq) ⟨hKX.out.2.1.size, hKX.out.2.1.same, hKX.out.2.1.eo⟩ hY2 (fun k hk => .inl (.inl hk)))
  · have e1 : mkT T r N n = coll (mR T r) T := by simp [mkT, hfit]
    have e2 : mkR T r N n = fun i => newC (mR T r) T (r i) := by simp [mkR, hfit]
    rw [e1, e2]
    have hd : decide (used T + n + 1 ≤ N) = false := by simp [hfit]
    rw [hd] at HR1
    have HC0 : ∀ w1, Ch (fun _ => False) w w1 → Calls Try.prog 13 #[.pointer (some ⟨hb, 0, none⟩), .func (.func 17) #[] #[.pointer (some ⟨lx, 0, none⟩)]] w1 fun e w' => e = .returned (.int .i64 (used (coll (mR T r) T) : Nat)) ∧ (∃ f', HM w' hb g N f' (used (coll (mR T r) T)) ∧ Lay (coll (mR T r) T) f' (g0 (coll (mR T r) T))) ∧ RtsM w' cb (fun i => newC (mR T r) T (r i)) ∧ Ch (fun k => k = g ∨ k = hb ∨ k = cb) w1 w' := fun w1 hc1 =>
      Collect_any w1 hb g N T f (H.keep hc1) hL hwf lx cb r ((hc1.same cb (Array.getElem?_eq_some_iff.1 hr).1 (fun h => h)).trans hr) ((hc1.same lx (Array.getElem?_eq_some_iff.1 (show w.heap[lx]? = some _ from hlx)).1 (fun h => h)).trans hlx) hrv hcg hch hlg hlh hlc
    generalize coll (mR T r) T = T1 at HC0 ⊢
    generalize (fun i => newC (mR T r) T (r i)) = r1 at HC0 ⊢
    replace HC0 := hid HC0
    clear H hL hr e1 e2 hd hwf hlx hrv
    by_cases hfT : used T1 + n + 1 ≤ N
    · skip
      have hws : IntKind.i64.wrap ((n : Int) + 1) = (n : Int) + 1 := IntWalk.i64_in _ (by omega)
      have hwu : IntKind.i64.wrap ((used T1 : Int) + ((n : Int) + 1)) = ((used T1 + (n + 1) : Nat) : Int) := by rw [IntWalk.i64_in _ (by omega)]; omega
      have hwa : IntKind.i64.wrap ((used T1 : Int) + 1) = ((used T1 + 1 : Nat) : Int) := by rw [IntWalk.i64_in _ (by omega)]; omega
      have haN : used T1 < N := by omega
      have haNI : (used T1 : Int) < (N : Int) := by omega
      go_enter Try.func6, Try.ntmps6
      go_wp2_with (first
        | (go_at_call 16; refine HR1.mono ?_; clear HR1; rintro e w1 ⟨rfl, hc1⟩; have HC := HC0.out w1 hc1; replace hc1 := hid hc1; clear HC0)
        | (go_at_call 13; refine HC.mono ?_; clear HC; rintro e w3 ⟨rfl, ⟨f1, H3, hL3⟩, hr3, hc3⟩; have HR2 := room_any w3 hb g N f1 (used T1) H3 n hn; rw [show decide (used T1 + n + 1 ≤ N) = true by simp [hfT]] at HR2; replace H3 := hid H3; have hLT := hid hL3; replace hr3 := hid hr3; replace hc3 := hid ((hc1.out.mono (O1 := fun k => k = g ∨ k = hb ∨ k = cb) (fun _ h => h.elim)).trans hc3 (fun _ h => .inl h)); clear hc1 hL3)
        | (go_at_call 16; refine HR2.mono ?_; clear HR2; rintro e w2 ⟨rfl, hc2⟩; have H2 := hid (H3.out.keep hc2); have hr2 : Hid (RtsM w2 cb r1) := (hc2.same cb (Array.getElem?_eq_some_iff.1 hr3.out).1 (fun h => h)).trans hr3.out; replace hc2 := hid (hc3.out.trans hc2 (fun _ h => h.elim)); obtain ⟨h0, h1, hfr⟩ := H2.out.head; replace hfr := hfr 1; obtain ⟨c0, c1, c2, c3, c4⟩ := H2.out.five haN; have hgz := fun q => H2.out.fz q; clear H3 hc3 hr3))
      obtain ⟨HX, hcX⟩ := make_head H2.out kind tag n hfT
      have hcX2 : Ch (fun k => k = g ∨ k = hb ∨ k = cb) w _ := hc2.out.trans hcX (fun k hk => .inl (by omega))
      have hrX : RtsM _ cb r1 := (hcX.same cb (Array.getElem?_eq_some_iff.1 hr2.out).1 (by omega)).trans hr2.out
      have hLX := make_lay hLT.out kind tag n
      clear hcX c0 c1 c2 c3 c4 hgz h0 h1 hfr hc2 H2 hr2 hLT
      change Code.wp _ _ _ _ (put5 (w2.setCell ⟨hb, 1, none⟩ (.int .i64 ((used T1 : Int) + ((n : Int) + 1)))) g (used T1) ⟨2, kind, tag, (n : Nat), 0⟩)
      generalize Hp.upd f1 (used T1) ⟨2, kind, tag, (n : Nat), 0⟩ = f2 at HX hLX
      generalize put5 (w2.setCell ⟨hb, 1, none⟩ (.int .i64 ((used T1 : Int) + ((n : Int) + 1)))) g (used T1) ⟨2, kind, tag, (n : Nat), 0⟩ = X at HX hcX2 hrX ⊢
      obtain ⟨h0, h1, -⟩ := HX.head
      have FIN : ∀ Y, HM Y hb g N (clr f2 (used T1 + 1) n) (used T1 + (n + 1)) → RtsM Y cb r1 → Ch (fun k => k = g ∨ k = hb ∨ k = cb) w Y → MakePost w hb g N cb T1 r1 kind tag n (.returned (.tuple #[.int .i64 (used T1 : Nat), .int .i64 0])) Y := fun Y h1 h2 h3 =>
        ⟨.inl ⟨hfT, rfl, _, by rw [used_snoc, newTh_size]; exact h1, hLX⟩, h2, h3⟩
      replace FIN := hid FIN
      have hKX := hid (And.intro HX (And.intro hcX2 hrX))
      clear HX hcX2 hrX hLX
      by_cases hn0 : n = 0
      · subst hn0
        have hclr := fun b cap W => clear0 0 b cap W
        have h1' : X.cell? ⟨hb, 1, none⟩ = some (.int .i64 ((used T1 : Nat) + 1 : Int)) := by rw [h1]; congr 2
        clear h1
        by_cases hN : N = used T1 + 1
        · skip
          refine wp_region_split 11 1 (by kernel_rfl) rfl (by kernel_rfl) (by kernel_rfl) (by kernel_rfl) ?_
          simp only [List.take_succ_cons, List.take_zero]
          repeat (gi_big_quiet_step (fail))
          refine wpQuietIn_nil ?_
          intro _ hw'
          obtain ⟨nq, hw''⟩ := hw'
          subst hw''
          refine wpAnyIn_ready (rs := [11]) (by kernel_rfl) (by simp) (AllReadyIn.cons rfl (fun K hK => ?_) AllReadyIn.nil)
          go_simp
          refine hK _ _ ?_
          clear hK K
          refine wpAnyIn_done (by kernel_rfl) ?_ _
          clear h0 h1' hclr
          go_wp2
          refine bodyPost_ret (v := .tuple #[.int .i64 (used T1 : Nat), .int .i64 0]) (by simp [results, Try.results6, go_sem]) rfl ?_
          exact FIN.out _ (by rw [clr_zero]; exact ⟨hKX.out.1.hd, hKX.out.1.row, hKX.out.1.ne, hKX.out.1.le, hKX.out.1.max⟩) hKX.out.2.2 ⟨hKX.out.2.1.size, hKX.out.2.1.same, hKX.out.2.1.eo⟩
        · skip
          refine wp_region_split 11 1 (by kernel_rfl) rfl (by kernel_rfl) (by kernel_rfl) (by kernel_rfl) ?_
          simp only [List.take_succ_cons, List.take_zero]
          repeat (gi_big_quiet_step (fail))
          refine wpQuietIn_nil ?_
          intro _ hw'
          obtain ⟨nq, hw''⟩ := hw'
          subst hw''
          refine wpAnyIn_ready (rs := [11]) (by kernel_rfl) (by simp) (AllReadyIn.cons rfl (fun K hK => ?_) AllReadyIn.nil)
          go_simp
          refine hK _ _ ?_
          clear hK K
          refine wpAnyIn_done (by kernel_rfl) ?_ _
          clear h0 h1' hclr
          go_wp2
          refine bodyPost_ret (v := .tuple #[.int .i64 (used T1 : Nat), .int .i64 0]) (by simp [results, Try.results6, go_sem]) rfl ?_
          exact FIN.out _ (by rw [clr_zero]; exact ⟨hKX.out.1.hd, hKX.out.1.row, hKX.out.1.ne, hKX.out.1.le, hKX.out.1.max⟩) hKX.out.2.2 ⟨hKX.out.2.1.size, hKX.out.2.1.same, hKX.out.2.1.eo⟩
      · have hN : ¬ N = used T1 + 1 := by omega
        have hclr := fun q => (HM.clear (w := X.drewN q) ⟨hKX.out.1.hd, hKX.out.1.row, hKX.out.1.ne, hKX.out.1.le, hKX.out.1.max⟩ (a := used T1 + 1) (n := n) (by omega) (by omega) 0 (N - (used T1 + 1))).1
        have h1' : X.cell? ⟨hb, 1, none⟩ = some (.int .i64 ((used T1 : Nat) + 1 + (n : Nat) : Int)) := by rw [h1]; congr 2; omega
        clear h1
        · skip
          refine wp_region_split 11 1 (by kernel_rfl) rfl (by kernel_rfl) (by kernel_rfl) (by kernel_rfl) ?_
          simp only [List.take_succ_cons, List.take_zero]
          repeat (gi_big_quiet_step (fail))
          refine wpQuietIn_nil ?_
          intro _ hw'
          obtain ⟨nq, hw''⟩ := hw'
          subst hw''
          refine wpAnyIn_ready (rs := [11]) (by kernel_rfl) (by simp) (AllReadyIn.cons rfl (fun K hK => ?_) AllReadyIn.nil)
          go_simp
          refine hK _ _ ?_
          clear hK K
          refine wpAnyIn_done (by kernel_rfl) ?_ _
          clear h0 h1' hclr
          go_wp2
          refine bodyPost_ret (v := .tuple #[.int .i64 (used T1 : Nat), .int .i64 0]) (by simp [results, Try.results6, go_sem]) rfl ?_
          obtain ⟨-, hY1, hY2⟩ := HM.clear (w := X.drewN nq) ⟨hKX.out.1.hd, hKX.out.1.row, hKX.out.1.ne, hKX.out.1.le, hKX.out.1.max⟩ (a := used T1 + 1) (n := n) (by omega) (by omega) 0 (N - (used T1 + 1))
          exact FIN.out _ hY1 ((setRow_other _ hcg).trans hKX.out.2.2) (Ch.trans (O := fun k => k = g ∨ k = hb ∨ k = cb) (b := X.drewN nq) ⟨hKX.out.2.1.size, hKX.out.2.1.same, hKX.out.2.1.eo⟩ hY2 (fun k hk => .inl (.inl hk)))
    · have hfd : decide (used T1 + n + 1 ≤ N) = false := by simp [hfT]
      go_enter Try.func6, Try.ntmps6
      go_wp2_with (first
        | (go_at_call 16; refine HR1.mono ?_; clear HR1; rintro e w1 ⟨rfl, hc1⟩; have HC := HC0.out w1 hc1; replace hc1 := hid hc1; clear HC0)
        | (go_at_call 13; refine HC.mono ?_; clear HC; rintro e w3 ⟨rfl, ⟨f1, H3, hL3⟩, hr3, hc3⟩; have HR2 := room_any w3 hb g N f1 (used T1) H3 n hn; rw [hfd] at HR2; replace H3 := hid H3; have hLT := hid hL3; replace hr3 := hid hr3; replace hc3 := hid ((hc1.out.mono (O1 := fun k => k = g ∨ k = hb ∨ k = cb) (fun _ h => h.elim)).trans hc3 (fun _ h => .inl h)); clear hc1 hL3)
        | (go_at_call 16; refine HR2.mono ?_; clear HR2; rintro e w2 ⟨rfl, hc2⟩; have H2 := hid (H3.out.keep hc2); have hr2 : Hid (RtsM w2 cb r1) := (hc2.same cb (Array.getElem?_eq_some_iff.1 hr3.out).1 (fun h => h)).trans hr3.out; replace hc2 := hid (hc3.out.trans hc2 (fun _ h => h.elim)); clear H3 hc3 hr3))
      refine bodyPost_ret (v := .tuple #[.int .i64 0, .int .i64 18]) (by simp [results, Try.results6, go_sem]) rfl ?_
      exact ⟨.inr ⟨hfT, rfl, f1, H2.out, hLT.out⟩, hr2.out, hc2.out⟩
end Go.Proofs.Ytidgppghakmkaaa
