/-
  The law's alike.
-/
import Derived.Test.YtidgppghakmkaaaKa
set_option linter.unusedVariables false
set_option linter.unusedSimpArgs false
namespace Go.Proofs.Ytidgppghakmkaaa
open scoped Classical
open Go.RowKit Go.Shelf Hp Go.Sort
attribute [local simp] wide_fn

set_option maxRecDepth 100000 in
set_option maxHeartbeats 16000000 in
theorem alike_any (w : World) (hb g N : Nat) (T : List Th) (f : Nat → PC) (H : HM w hb g N f (used T)) (hL : Lay T f (g0 T)) (hok : TOk T) (hwf : WF T) (rb : Nat) (bs : Nat → Nat) (lv : Value) (D : DM w rb N T bs lv) (ca cb : Nat) (r : Nat → Cl) (ha : RtsM w ca r) (hr : RtsM w cb r) (hrv : RV T r) :
    Calls Try.prog 15 #[.pointer (some ⟨hb, 0, none⟩), .pointer (some ⟨rb, 0, none⟩), .slice (some ⟨ca, 0, none⟩) 6 6, .slice (some ⟨cb, 0, none⟩) 6 6] w fun e w' => e = .returned (.bool true) ∧ Ch (fun _ => False) w w' := by
  have hal : ca < w.heap.size := (Array.getElem?_eq_some_iff.1 ha).1
  have hcl : cb < w.heap.size := (Array.getElem?_eq_some_iff.1 hr).1
  have hln := len_used T
  have hle := D.le
  have hmx := D.max
  have hold : ∀ wr, Ch (fun _ => False) w wr → HM wr hb g N f (used T) ∧ DM wr rb N T bs lv ∧ RtsM wr ca r ∧ RtsM wr cb r := fun wr hc => ⟨H.keep hc, D.quiet hc, (hc.same ca hal (fun h => h)).trans ha, (hc.same cb hcl (fun h => h)).trans hr⟩
  obtain ⟨la, lcap, elv, hla, -⟩ := row_slice D.row
  replace hold := hid hold
  have hL' := hid hL
  have hok' := hid hok
  have hwf' := hid hwf
  have hrv' := hid hrv
  clear H D ha hr hL hok hwf hrv
  go_enter Try.func15, Try.ntmps15
  go_wp2
  go_loopw [9] (fun v9 wr => ∃ i, v9 = .int .i64 (i : Nat) ∧ i ≤ 6 ∧ Ch (fun _ => False) w wr) (fun v9 _ => 6 - (intOf v9).toNat)
  case atStart => exact ⟨0, rfl, by omega, Ch.refl _ _⟩
  case round =>
    obtain ⟨i, rfl, hi, hc⟩ := hrel
    obtain ⟨H1, D1, ha1, hr1⟩ := hold.out wr hc
    by_cases e : i = 6
    · subst e
      have HU1 := used_any wr hb g N f (used T) H1
      have HU2 := DUsed_any wr rb N T bs lv D1
      clear H1 D1 ha1 hr1
      go_wp2_with (first
        | (go_at_call 27; refine HU1.mono ?_; clear HU1; rintro e9 w9 ⟨rfl, hw9⟩; obtain rfl := hw9.symm)
        | (go_at_call 18; refine HU2.mono ?_; clear HU2; rintro e9 w2 ⟨rfl, q2, os2, hw2⟩; have hc2 := Ch_grow wr q2 os2; rw [← hw2] at hc2; replace hc2 := hc.trans hc2 (fun _ h => .inl h); clear hw2; have HP := places_any w2 cb)
        | (go_at_call 9; refine HP.mono ?_; clear HP; rintro e9 w3 ⟨pb, pc, rfl, hP3, hpn, hc3⟩; have hc03 := hc2.trans hc3 (fun _ h => .inl h); obtain ⟨H3, D3, -, hr3⟩ := hold.out w3 hc03; have HR := Reached_any w3 rb N T bs lv D3 hwf'.out pb pc cb r hP3 hr3 hrv'.out; clear H3 D3 hr3)
        | (go_at_call 26; refine HR.mono ?_; clear HR; rintro e9 w4 ⟨rfl, hin4, hc4⟩; have hc04 := hc03.trans hc4 (fun _ h => .inl h)))
      generalize w3.heap.size = ib at *
      clear hc hc2 hc3 hc03 hc4 hpn hP3
      go_loopw [11] (fun v11 wr => ∃ i, v11 = .int .i64 (i : Nat) ∧ i ≤ T.length ∧ Ch (fun _ => False) w wr ∧ wr.heap[ib]? = some (.cells (bRow (mR T r) T.length) 4 (0, 0))) (fun v11 _ => T.length - (intOf v11).toNat)
      case atStart => exact ⟨0, rfl, by omega, hc04, hin4⟩
      case round =>
        obtain ⟨i, rfl, hi, hc, hin⟩ := hrel
        by_cases e : i = T.length
        · subst e
          go_wp2
          go_ret
          exact ⟨rfl, hc⟩
        · have hlt : i < T.length := by omega
          have hltI : (i : Int) < (T.length : Int) := by omega
          have hw1 : IntKind.i64.wrap ((i : Int) + 1) = (i : Int) + 1 := IntWalk.i64_in _ (by omega)
          obtain ⟨t, ht⟩ : ∃ t, T[i]? = some t := ⟨_, List.getElem?_eq_getElem hlt⟩
          obtain ⟨lg, rfl⟩ : ∃ lg, la = some ⟨lg, 0, none⟩ := hla.resolve_left (by omega)
          subst elv
          obtain ⟨-, D1, -, -⟩ := hold.out wr hc
          have h1 : wr.cell? ⟨rb, 1, none⟩ = some (.slice (some ⟨lg, 0, none⟩) T.length lcap) := by simp [World.cell?, D1.hd]
          obtain ⟨q0, q1, q2, q3⟩ := D1.thing ht
          obtain ⟨X, hX⟩ : ∃ X, wr.alloc (.cells #[.int .i64 (ad T i : Nat), .int .i64 t.kind, .int .i64 t.tag, .slice (some ⟨bs i, 0, none⟩) t.l.length t.l.length] 46) = X := ⟨_, rfl⟩
          have hcX : Ch (fun _ => False) wr X := by rw [← hX]; exact (Ch.refl _ wr).al _
          have hBX : X.heap[wr.heap.size]? = some (.cells #[.int .i64 (ad T i : Nat), .int .i64 t.kind, .int .i64 t.tag, .slice (some ⟨bs i, 0, none⟩) t.l.length t.l.length] 46 (0, 0)) := by rw [← hX]; exact World.alloc_heap_new wr _
          have x0 : X.cell? ⟨wr.heap.size, 0, none⟩ = some (.int .i64 (ad T i : Nat)) := by unfold World.cell?; rw [hBX]; rfl
          have x1 : X.cell? ⟨wr.heap.size, 1, none⟩ = some (.int .i64 t.kind) := by unfold World.cell?; rw [hBX]; rfl
          have x2 : X.cell? ⟨wr.heap.size, 2, none⟩ = some (.int .i64 t.tag) := by unfold World.cell?; rw [hBX]; rfl
          have x3 : X.cell? ⟨wr.heap.size, 3, none⟩ = some (.slice (some ⟨bs i, 0, none⟩) t.l.length t.l.length) := by unfold World.cell?; rw [hBX]; rfl
          have hinX : X.heap[ib]? = some (.cells (bRow (mR T r) T.length) 4 (0, 0)) := (hcX.same ib (Array.getElem?_eq_some_iff.1 hin).1 (fun h => h)).trans hin
          have hic : X.cell? ⟨ib, i, none⟩ = some (.bool (mR T r i)) := by
            have := bRow_at (mR T r) hlt
            unfold World.cell?
            rw [hinX]
            exact this
          have hcwX := hc.trans hcX (fun _ h => .inl h)
          have hud := ad_used ht
          have hst : t.size = t.l.length + 1 := rfl
          clear D1 hcX hBX
          cases hm : mR T r i with
          | false =>
            rw [hm] at hic
            go_wp2
            go_roundw
            case rel => exact ⟨i + 1, by simp, by omega, hcwX, hinX⟩
            case measure => simp [intOf]; omega
          | true =>
            rw [hm] at hic
            have hmix : Try.prog.follows .mixedOrders = true := by kernel_rfl
            have hfirst := lay0_first hL'.out ht
            have hpc := pc_ok hok'.out ht hle hmx
            have hHp : ∀ p : ChBy X, HM p.v hb g N f (used T) := fun p => (hold.out p.v (hcwX.trans p.h (fun _ h => .inl h))).1
            have HK := fun p : ChBy X => Kind_any p.v hb g N f (used T) (hHp p) ((ad T i : Nat) : Int) (by rw [hfirst]; exact hpc)
            have HT := fun p : ChBy X => Tag_any p.v hb g N f (used T) (hHp p) ((ad T i : Nat) : Int) (by rw [hfirst]; exact hpc)
            have HN := fun p : ChBy X => Len_any p.v hb g N f (used T) (hHp p) ((ad T i : Nat) : Int) (by rw [hfirst]; exact hpc)
            rw [hfirst] at HK HT HN
            have y0 := fun p : ChBy X => cell_ch x0 p
            have y1 := fun p : ChBy X => cell_ch x1 p
            have y2 := fun p : ChBy X => cell_ch x2 p
            have y3 := fun p : ChBy X => cell_ch x3 p
            go_wp2
            refine wp_region_quiet_ch hmix (by kernel_rfl) ?_
            repeat (quiet_step (first | (go_at_call 28; refine Calls.ch_of (HK _)) | (go_at_call 29; refine Calls.ch_of (HT _)) | (go_at_call 30; refine Calls.ch_of (HN _))))
            refine wpQuiet_nil ?_
            rintro Y ⟨p, rfl⟩
            have hcY := p.h
            generalize p.v = Y at hcY ⊢
            replace hin := hid hinX
            clear HK HT HN y0 y1 y2 y3 hHp q0 q1 q2 q3 h1 hic hinX
            have hX1 := hid (And.intro x0 x3)
            clear x0 x1 x2 x3 hX
            generalize wr.heap.size = Bt at *
            go_wp2
            go_loopw [13] (fun v13 wr => ∃ j, v13 = .int .i64 (j : Nat) ∧ j ≤ t.l.length ∧ Ch (fun _ => False) X wr) (fun v13 _ => t.l.length - (intOf v13).toNat)
            case atStart => exact ⟨0, rfl, by omega, hcY⟩
            case round =>
              obtain ⟨j, rfl, hj, hcj⟩ := hrel
              have z0 := cell_ch hX1.out.1 ⟨wr, hcj⟩
              have z3 := cell_ch hX1.out.2 ⟨wr, hcj⟩
              dsimp only at z0 z3
              have hcwj := hcwX.trans hcj (fun _ h => .inl h)
              by_cases ej : j = t.l.length
              · subst ej
                have hinj : wr.heap[ib]? = some (.cells (bRow (mR T r) T.length) 4 (0, 0)) := (hcj.same ib (Array.getElem?_eq_some_iff.1 hin.out).1 (fun h => h)).trans hin.out
                go_wp2
                go_roundw
                case rel => exact ⟨i + 1, by simp, by omega, hcwj, hinj⟩
                case measure => simp [intOf]; omega
              · have hjl : j < t.l.length := by omega
                have hjI : (j : Int) < (t.l.length : Int) := by omega
                have hw2 : IntKind.i64.wrap ((j : Int) + 1) = (j : Int) + 1 := IntWalk.i64_in _ (by omega)
                have hHp : ∀ p : ChBy wr, HM p.v hb g N f (used T) := fun p => (hold.out p.v (hcwj.trans p.h (fun _ h => .inl h))).1
                have HG := fun p : ChBy wr => Get_any p.v hb g N T f (hHp p) hL'.out hok'.out i j t ht hjl
                have hDp : ∀ p : ChBy wr, p.v.cell? ⟨bs i, j * 2, none⟩ = some (.bool (clOf T i j).ptr) ∧ p.v.cell? ⟨bs i, j * 2 + 1, none⟩ = some (.int .i64 (clOf T i j).n) := fun p => by
                  obtain ⟨f0, f1, -⟩ := (hold.out p.v (hcwj.trans p.h (fun _ h => .inl h))).2.1.field ht hjl
                  exact ⟨f0, f1⟩
                have d0 := fun p : ChBy wr => (hDp p).1
                have d1 := fun p : ChBy wr => (hDp p).2
                have y0 := fun p : ChBy wr => cell_ch z0 p
                have y3 := fun p : ChBy wr => cell_ch z3 p
                clear hHp hDp
                go_wp2
                refine wp_region_quiet_ch hmix (by kernel_rfl) ?_
                repeat (quiet_step (first | (go_at_call 12; refine Calls.ch_of (HG _))))
                refine wpQuiet_nil ?_
                rintro Y2 ⟨p2, rfl⟩
                have hcY2 := p2.h
                generalize p2.v = Y2 at hcY2 ⊢
                clear HG d0 d1 y0 y3 z0 z3
                go_wp2
                refine ⟨⟨j + 1, by simp, by omega, hcj.trans hcY2 (fun _ h => .inl h)⟩, ?_⟩
                simp only [intOf]
                omega
    · have hlt : i < 6 := by omega
      have hltI : (i : Int) < 6 := by omega
      have hw1 : IntKind.i64.wrap ((i : Int) + 1) = (i : Int) + 1 := IntWalk.i64_in _ (by omega)
      obtain ⟨a0, a1, -⟩ := (ha1.at hlt).cells
      obtain ⟨b0, b1, -⟩ := (hr1.at hlt).cells
      clear H1 D1 ha1 hr1
      go_wp2
      go_quiet (fail)
      go_wp2
      refine ⟨⟨i + 1, by simp, by omega, ⟨hc.size, hc.same, hc.eo⟩⟩, ?_⟩
      simp only [intOf]
      omega
end Go.Proofs.Ytidgppghakmkaaa
