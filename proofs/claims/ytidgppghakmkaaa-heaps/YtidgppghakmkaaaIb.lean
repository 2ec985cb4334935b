/-
  The program's Set and New.
-/
import Derived.Test.YtidgppghakmkaaaIa
set_option linter.unusedVariables false
set_option linter.unusedSimpArgs false
namespace Go.Proofs.Ytidgppghakmkaaa
open Go.RowKit Go.Shelf Hp
attribute [local simp] wide_fn

/-- A whole cell is written. -/
def put5 (w : World) (g a : Nat) (c : PC) : World := ((((w.setCell ⟨g, a * 5, none⟩ (.int .u8 c.is)).setCell ⟨g, a * 5 + 1, none⟩ (.int .u8 c.kind)).setCell ⟨g, a * 5 + 2, none⟩ (.int .u16 c.tag)).setCell ⟨g, a * 5 + 3, none⟩ (.int .u32 c.size)).setCell ⟨g, a * 5 + 4, none⟩ (.int .i64 c.n)
theorem HM.put {w : World} {hb g N : Nat} {f : Nat → PC} {u : Nat} (H : HM w hb g N f u) {a : Nat} (c : PC) (ha : a < N) : HM (put5 w g a c) hb g N (Hp.upd f a c) u ∧ Ch (fun k => k = g) w (put5 w g a c) := by
  have e : ∀ (f : Nat → PC) (d : PC), Hp.upd f a d a = d := fun f d => by simp [Hp.upd]
  have H0 := H.set (k := 0) ⟨c.is, (f a).kind, (f a).tag, (f a).size, (f a).n⟩ ha (by omega) (fun j hj hk => by rcases (show j = 0 ∨ j = 1 ∨ j = 2 ∨ j = 3 ∨ j = 4 by omega) with rfl | rfl | rfl | rfl | rfl <;> first | rfl | exact absurd rfl hk)
  have H1 := H0.set (k := 1) ⟨c.is, c.kind, (f a).tag, (f a).size, (f a).n⟩ ha (by omega) (fun j hj hk => by rw [e]; rcases (show j = 0 ∨ j = 1 ∨ j = 2 ∨ j = 3 ∨ j = 4 by omega) with rfl | rfl | rfl | rfl | rfl <;> first | rfl | exact absurd rfl hk)
  have H2 := H1.set (k := 2) ⟨c.is, c.kind, c.tag, (f a).size, (f a).n⟩ ha (by omega) (fun j hj hk => by rw [e]; rcases (show j = 0 ∨ j = 1 ∨ j = 2 ∨ j = 3 ∨ j = 4 by omega) with rfl | rfl | rfl | rfl | rfl <;> first | rfl | exact absurd rfl hk)
  have H3 := H2.set (k := 3) ⟨c.is, c.kind, c.tag, c.size, (f a).n⟩ ha (by omega) (fun j hj hk => by rw [e]; rcases (show j = 0 ∨ j = 1 ∨ j = 2 ∨ j = 3 ∨ j = 4 by omega) with rfl | rfl | rfl | rfl | rfl <;> first | rfl | exact absurd rfl hk)
  have H4 := H3.set (k := 4) c ha (by omega) (fun j hj hk => by rw [e]; rcases (show j = 0 ∨ j = 1 ∨ j = 2 ∨ j = 3 ∨ j = 4 by omega) with rfl | rfl | rfl | rfl | rfl <;> first | rfl | exact absurd rfl hk)
  rw [upd_upd, upd_upd, upd_upd, upd_upd] at H4
  refine ⟨H4, ?_⟩
  unfold put5
  exact ((((Ch.setCell (O := fun k => k = g) w ⟨g, a * 5, none⟩ _ rfl).set (O := fun k => k = g) (a := ⟨g, a * 5 + 1, none⟩) rfl _).set (a := ⟨g, a * 5 + 2, none⟩) rfl _).set (a := ⟨g, a * 5 + 3, none⟩) rfl _).set (a := ⟨g, a * 5 + 4, none⟩) rfl _

set_option maxRecDepth 100000 in
set_option maxHeartbeats 8000000 in
theorem Set_any (w : World) (hb g N : Nat) (T : List Th) (f : Nat → PC) (H : HM w hb g N f (used T)) (hL : Lay T f (g0 T)) (hok : TOk T) (i j : Nat) (t : Th) (ht : T[i]? = some t) (hj : j < t.l.length) (c : Cl) :
    Calls Try.prog 11 #[.pointer (some ⟨hb, 0, none⟩), .int .i64 (ad T i : Nat), .int .i64 (j : Nat), .agg #[.bool c.ptr, .int .i64 c.n]] w fun e w' => e = .returned (.tuple #[]) ∧ (∃ f', HM w' hb g N f' (used T) ∧ Lay (setC T i j c) f' (g0 (setC T i j c))) ∧ Ch (fun k => k = g) w w' := by
  obtain ⟨V, hV⟩ : ∃ V, w.alloc (.cells #[.bool c.ptr, .int .i64 c.n] 43) = V := ⟨_, rfl⟩
  have hcV : Ch (fun _ => False) w V := by rw [← hV]; exact (Ch.refl _ w).al _
  have hB : V.heap[w.heap.size]? = some (.cells #[.bool c.ptr, .int .i64 c.n] 43 (0, 0)) := by rw [← hV]; exact World.alloc_heap_new w _
  have HV := H.keep hcV
  have hu := ad_used ht
  have hs : t.size = t.l.length + 1 := rfl
  have hle := H.le
  have hmx := H.max
  have hfirst := lay0_first hL ht
  have HH := has_any V hb g N f (used T) HV ((ad T i : Nat) : Int) (j : Int) (by rw [hfirst]; exact pc_ok hok ht hle hmx)
  rw [hfirst] at HH
  have hd1 : (decide ((0 : Int) ≤ (j : Int)) && decide ((j : Int) < ((t.l.length : Nat) : Int))) = true := by simp [hj]
  dsimp only at HH
  rw [hd1] at HH
  have hq : ad T i + (j + 1) < N := by omega
  have hqI : ((ad T i : Nat) : Int) + 1 + (j : Int) < (N : Int) := by omega
  have hq0 : (0 : Int) ≤ ((ad T i : Nat) : Int) + 1 + (j : Int) := by omega
  have htn : (((ad T i : Nat) : Int) + 1 + (j : Int)).toNat = ad T i + (j + 1) := by omega
  have hw1 : IntKind.i64.wrap (((ad T i : Nat) : Int) + 1) = ((ad T i : Nat) : Int) + 1 := IntWalk.i64_in _ (by omega)
  have hw2 : IntKind.i64.wrap (((ad T i : Nat) : Int) + 1 + (j : Int)) = ((ad T i : Nat) : Int) + 1 + (j : Int) := IntWalk.i64_in _ (by omega)
  have FIN : ∀ (X : World), Ch (fun _ => False) w X → (∃ f', HM (put5 X g (ad T i + (j + 1)) (field c c.n)) hb g N f' (used T) ∧ Lay (setC T i j c) f' (g0 (setC T i j c))) ∧ Ch (fun k => k = g) w (put5 X g (ad T i + (j + 1)) (field c c.n)) := by
    intro X hX
    obtain ⟨h1, h2⟩ := (H.keep hX).put (field c c.n) hq
    exact ⟨⟨_, h1, hL.setC ht hj c⟩, (hX.mono (fun _ h => h.elim)).trans h2 (fun _ h => .inl h)⟩
  have HcV := hid hcV
  have HHV := hid HV
  have hBB := hid hB
  replace FIN := hid FIN
  have hgl : g < w.heap.size := (Array.getElem?_eq_some_iff.1 H.row).1
  have hbl : hb < w.heap.size := (Array.getElem?_eq_some_iff.1 H.hd).1
  clear H hL hok hfirst hcV HV hB
  cases hp : c.ptr with
  | false =>
    rw [hp] at hV
    go_enter Try.func11, Try.ntmps11
    go_upto_region 1 with (fail)
    clear hV
    go_wp2_with (go_at_call 19; refine HH.mono ?_; clear HH; rintro e w1 ⟨rfl, hc1⟩; have H1 := HHV.out.keep hc1; have z2 := (Array.getElem?_eq_some_iff.1 hBB.out).1; have b1 := (hc1.same w.heap.size z2 (fun h => h)).trans hBB.out; rw [hp] at b1; have b10 := World.cell?_of_block (w := w1) rfl (a := ⟨w.heap.size, 0, none⟩); have b10 : w1.cell? ⟨w.heap.size, 0, none⟩ = some (.bool false) := (by simp only [World.cell?, b1]; rfl); have b11 : w1.cell? ⟨w.heap.size, 1, none⟩ = some (.int .i64 c.n) := (by simp only [World.cell?, b1]; rfl); have b10a : ∀ o, (w1.alloc o).cell? ⟨w.heap.size, 0, none⟩ = some (.bool false) := (fun o => by simp only [World.cell?, blk_alloc (x := o) b1]; rfl); have z1 := hc1.size; have HC1 := hid (HcV.out.trans hc1 (fun _ h => .inl h)); replace H1 := hid H1; clear hc1 b1 HHV)
    have HX : ∀ v, HM (w1.alloc (.cells #[v, .int .u8 0, .int .u16 0, .int .u32 0, .int .i64 c.n] 61)) hb g N f (used T) ∧ Ch (fun _ => False) w (w1.alloc (.cells #[v, .int .u8 0, .int .u16 0, .int .u32 0, .int .i64 c.n] 61)) ∧ (w1.alloc (.cells #[v, .int .u8 0, .int .u16 0, .int .u32 0, .int .i64 c.n] 61)).heap[w1.heap.size]? = some (.cells #[v, .int .u8 0, .int .u16 0, .int .u32 0, .int .i64 c.n] 61 (0, 0)) := fun v =>
      ⟨H1.out.keep ((Ch.refl _ w1).al _), HC1.out.al _, World.alloc_heap_new w1 _⟩
    obtain ⟨HX1, HX2, HX3⟩ := HX (.int .u8 0)
    have hne : ¬ w1.heap.size = g := by omega
    clear HX H1 HC1 b10a b11 b10
    generalize w1.alloc (.cells #[.int .u8 0, .int .u8 0, .int .u16 0, .int .u32 0, .int .i64 c.n] 61) = X at HX1 HX2 HX3 ⊢
    obtain ⟨h0, -, -⟩ := HX1.head
    obtain ⟨d0, d1, d2, d3, d4⟩ := HX1.five hq
    have hfz := fun q => HX1.fz q
    have y0 : X.cell? ⟨w1.heap.size, 0, none⟩ = some (.int .u8 0) := by simp only [World.cell?, HX3]; rfl
    have y1 : X.cell? ⟨w1.heap.size, 1, none⟩ = some (.int .u8 0) := by simp only [World.cell?, HX3]; rfl
    have y2 : X.cell? ⟨w1.heap.size, 2, none⟩ = some (.int .u16 0) := by simp only [World.cell?, HX3]; rfl
    have y3 : X.cell? ⟨w1.heap.size, 3, none⟩ = some (.int .u32 0) := by simp only [World.cell?, HX3]; rfl
    have y4 : X.cell? ⟨w1.heap.size, 4, none⟩ = some (.int .i64 c.n) := by simp only [World.cell?, HX3]; rfl
    replace HX1 := hid HX1
    replace HX2 := hid HX2
    clear HX3
    refine wp_region_split 10 1 (by kernel_rfl) rfl (by kernel_rfl) (by kernel_rfl) (by kernel_rfl) ?_
    simp only [List.take_succ_cons, List.take_zero]
    repeat (gi_big_quiet_step (fail))
    refine wpQuietIn_nil ?_
    intro _ hw'
    obtain ⟨nq, hw''⟩ := hw'
    subst hw''
    refine wpAnyIn_ready (rs := [10]) (by kernel_rfl) (by simp) (AllReadyIn.cons rfl (fun K hK => ?_) AllReadyIn.nil)
    go_simp
    refine hK _ _ ?_
    clear hK K
    refine wpAnyIn_done (by kernel_rfl) ?_ _
    go_end0
    have e1 : (put5 X g (ad T i + (j + 1)) (field c c.n)) = (put5 X g (ad T i + (j + 1)) ⟨0, 0, 0, 0, c.n⟩) := by simp [field, hp]
    have h1 := FIN.out (X.drewN nq) ⟨HX2.out.size, HX2.out.same, HX2.out.eo⟩
    simp only [field, hp] at h1
    exact ⟨rfl, h1⟩
  | true =>
    rw [hp] at hV
    go_enter Try.func11, Try.ntmps11
    go_upto_region 1 with (fail)
    clear hV
    go_wp2_with (go_at_call 19; refine HH.mono ?_; clear HH; rintro e w1 ⟨rfl, hc1⟩; have H1 := HHV.out.keep hc1; have z2 := (Array.getElem?_eq_some_iff.1 hBB.out).1; have b1 := (hc1.same w.heap.size z2 (fun h => h)).trans hBB.out; rw [hp] at b1; have b10 := World.cell?_of_block (w := w1) rfl (a := ⟨w.heap.size, 0, none⟩); have b10 : w1.cell? ⟨w.heap.size, 0, none⟩ = some (.bool true) := (by simp only [World.cell?, b1]; rfl); have b11 : w1.cell? ⟨w.heap.size, 1, none⟩ = some (.int .i64 c.n) := (by simp only [World.cell?, b1]; rfl); have b10a : ∀ o, (w1.alloc o).cell? ⟨w.heap.size, 0, none⟩ = some (.bool true) := (fun o => by simp only [World.cell?, blk_alloc (x := o) b1]; rfl); have z1 := hc1.size; have HC1 := hid (HcV.out.trans hc1 (fun _ h => .inl h)); replace H1 := hid H1; clear hc1 b1 HHV)
    have HX : ∀ v, HM (w1.alloc (.cells #[v, .int .u8 0, .int .u16 0, .int .u32 0, .int .i64 c.n] 61)) hb g N f (used T) ∧ Ch (fun _ => False) w (w1.alloc (.cells #[v, .int .u8 0, .int .u16 0, .int .u32 0, .int .i64 c.n] 61)) ∧ (w1.alloc (.cells #[v, .int .u8 0, .int .u16 0, .int .u32 0, .int .i64 c.n] 61)).heap[w1.heap.size]? = some (.cells #[v, .int .u8 0, .int .u16 0, .int .u32 0, .int .i64 c.n] 61 (0, 0)) := fun v =>
      ⟨H1.out.keep ((Ch.refl _ w1).al _), HC1.out.al _, World.alloc_heap_new w1 _⟩
    obtain ⟨HX1, HX2, HX3⟩ := HX (.int .u8 1)
    have hne : ¬ w1.heap.size = g := by omega
    clear HX H1 HC1 b10a b11 b10
    generalize w1.alloc (.cells #[.int .u8 1, .int .u8 0, .int .u16 0, .int .u32 0, .int .i64 c.n] 61) = X at HX1 HX2 HX3 ⊢
    obtain ⟨h0, -, -⟩ := HX1.head
    obtain ⟨d0, d1, d2, d3, d4⟩ := HX1.five hq
    have hfz := fun q => HX1.fz q
    have y0 : X.cell? ⟨w1.heap.size, 0, none⟩ = some (.int .u8 1) := by simp only [World.cell?, HX3]; rfl
    have y1 : X.cell? ⟨w1.heap.size, 1, none⟩ = some (.int .u8 0) := by simp only [World.cell?, HX3]; rfl
    have y2 : X.cell? ⟨w1.heap.size, 2, none⟩ = some (.int .u16 0) := by simp only [World.cell?, HX3]; rfl
    have y3 : X.cell? ⟨w1.heap.size, 3, none⟩ = some (.int .u32 0) := by simp only [World.cell?, HX3]; rfl
    have y4 : X.cell? ⟨w1.heap.size, 4, none⟩ = some (.int .i64 c.n) := by simp only [World.cell?, HX3]; rfl
    replace HX1 := hid HX1
    replace HX2 := hid HX2
    clear HX3
    refine wp_region_split 10 1 (by kernel_rfl) rfl (by kernel_rfl) (by kernel_rfl) (by kernel_rfl) ?_
    simp only [List.take_succ_cons, List.take_zero]
    repeat (gi_big_quiet_step (fail))
    refine wpQuietIn_nil ?_
    intro _ hw'
    obtain ⟨nq, hw''⟩ := hw'
    subst hw''
    refine wpAnyIn_ready (rs := [10]) (by kernel_rfl) (by simp) (AllReadyIn.cons rfl (fun K hK => ?_) AllReadyIn.nil)
    go_simp
    refine hK _ _ ?_
    clear hK K
    refine wpAnyIn_done (by kernel_rfl) ?_ _
    go_end0
    have e1 : (put5 X g (ad T i + (j + 1)) (field c c.n)) = (put5 X g (ad T i + (j + 1)) ⟨1, 0, 0, 0, c.n⟩) := by simp [field, hp]
    have h1 := FIN.out (X.drewN nq) ⟨HX2.out.size, HX2.out.same, HX2.out.eo⟩
    simp only [field, hp] at h1
    exact ⟨rfl, h1⟩
end Go.Proofs.Ytidgppghakmkaaa
