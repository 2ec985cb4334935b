/-
  The document's Reached, walked.
-/
import Derived.Test.YtidgppghakmkaaaJb
set_option linter.unusedVariables false
set_option linter.unusedSimpArgs false
namespace Go.Proofs.Ytidgppghakmkaaa
open scoped Classical
open Go.RowKit Go.Shelf Hp Go.Sort
attribute [local simp] wide_fn

set_option maxRecDepth 100000 in
set_option maxHeartbeats 16000000 in
theorem Reached_any (w : World) (rb N : Nat) (T : List Th) (bs : Nat → Nat) (lv : Value) (D : DM w rb N T bs lv) (hwf : WF T) (pb pc cb : Nat) (r : Nat → Cl) (hp : PlM w pb cb) (hr : RtsM w cb r) (hrv : RV T r) :
    Calls Try.prog 26 #[.pointer (some ⟨rb, 0, none⟩), .slice (some ⟨pb, 0, none⟩) 6 pc] w fun e w' => e = .returned (.slice (some ⟨w.heap.size, 0, none⟩) T.length T.length) ∧ w'.heap[w.heap.size]? = some (.cells (bRow (mR T r) T.length) 4 (0, 0)) ∧ Ch (fun _ => False) w w' := by
  obtain ⟨la, lcap, elv, hla, -⟩ := row_slice D.row
  have hln := len_used T
  have hle := D.le
  have hmx := D.max
  have hcl : cb < w.heap.size := (Array.getElem?_eq_some_iff.1 hr).1
  have hpl : pb < w.heap.size := block_lt_of_cell (hp 0 (by omega))
  have h1 : w.cell? ⟨rb, 1, none⟩ = some (.slice la T.length lcap) := by simp [World.cell?, D.hd, elv]
  obtain ⟨i4, hi4, hzz⟩ := Option.map_eq_some_iff.1 Try.info4
  simp only [Prod.mk.injEq] at hzz
  obtain ⟨hz4, hs4, hb4⟩ := hzz
  have hmk := run_make (P := Try.prog) w 67 4 i4 _ Try.underlying67 hi4 hz4 .i64 .i64 T.length T.length (by omega) (Int.le_refl _) (by rw [hb4]; omega) (by omega)
  rw [hs4] at hmk
  simp only [Int.toNat_natCast, Nat.mul_one] at hmk
  rw [show (Value.bool false).cells = #[.bool false] from rfl, madeB] at hmk
  clear hi4 hz4 hs4 hb4
  have hR0 : RcM w (w.alloc (.cells (bRow (fun _ => false) T.length) 4)) T (fun _ => false) [] (.slice none 0 0) := ⟨(Ch.refl _ w).al _, World.alloc_heap_new w _, ⟨rfl, .inl ⟨rfl, rfl⟩⟩, (by simp [Value.ownBlock]), fun k hk => (by simp [Value.ownBlock] at hk)⟩
  -- what an old block says later
  have hold : ∀ wr, Ch (fun _ => False) w wr → DM wr rb N T bs lv ∧ PlM wr pb cb ∧ RtsM wr cb r := fun wr hc => ⟨D.quiet hc, hp.keep (hc.same pb hpl (fun h => h)), (hc.same cb hcl (fun h => h)).trans hr⟩
  replace hold := hid hold
  have hR0' := hid hR0
  have hrv' := hid hrv
  have hwf' := hid hwf
  clear D hp hr hR0 hrv hwf
  go_enter Try.func26, Try.ntmps26
  go_wp2
  clear hmk h1
  go_loopw [6, 7] (fun v6 v7 wr => ∃ (i : Nat) (td : List Nat), v7 = .int .i64 (i : Nat) ∧ i ≤ 6 ∧ td.length ≤ i ∧ RcM w wr T (fun _ => false) td v6 ∧ RI T r i (fun _ => false) td 0 0) (fun _ v7 _ => 6 - (intOf v7).toNat)
  case atStart => exact ⟨0, [], rfl, by omega, by simp, hR0'.out, RI.start T r⟩
  case round =>
    obtain ⟨i, td, rfl, hi, htl, hM, hI⟩ := hrel
    have hM' := hid hM
    by_cases e : i < 6
    · have eI : (i : Int) < 6 := by omega
      obtain ⟨D1, hp1, hr1⟩ := hold.out wr hM.ch
      have HR := hr1.at e
      obtain ⟨c0, c1, -⟩ := HR.cells
      have hpi := hp1 i e
      have hw1 : IntKind.i64.wrap ((i : Int) + 1) = (i : Int) + 1 := IntWalk.i64_in _ (by omega)
      obtain ⟨ta, tcap, etv, hta, -⟩ := row_slice hM.row
      subst etv
      clear HR hr1 hp1
      cases hpt : (r i).ptr with
      | false =>
        rw [hpt] at c0
        clear c1 D1 hM
        go_wp2
        refine ⟨⟨i + 1, td, by simp, by omega, by omega, hM'.out, hI.skipRoot hpt⟩, ?_⟩
        simp only [intOf]
        omega
      | true =>
        rw [hpt] at c0
        obtain ⟨k, t, ht, hn⟩ := hrv'.out i e hpt
        rw [hn] at c1
        have HA := At_any wr rb N T bs lv D1 k t ht
        have hr1 := ownsRow_keep (w' := wr.alloc (.cells #[.int .i64 ((k : Nat) : Int)] 3)) hM.row (fun j hj => Below.heap_alloc _ _ _ (ownsRow_lt hM.row hj))
        have hAc := new_one wr (.int .i64 (k : Nat)) 3
        clear D1 hM
        go_wp2_with (first
          | (go_at_call 10; refine HA.mono ?_; clear HA; rintro e9 w9 ⟨rfl, hw9⟩; obtain rfl := hw9.symm)
          | (at_builtin; go_must (refine list_append rfl (.tmp 30) (.tmp 40) 75 rfl 3 (.int .i64 0) 1 8 Try.underlying75 Try.info3 rfl (by decide) (.slice ta td.length tcap) td.length (td.map fun k => .int .i64 (k : Nat)) rfl hr1 ⟨wr.heap.size, 0, none⟩ 1 1 [.int .i64 (k : Nat)] rfl rfl hAc (by simp [Value.oneCell']) (by unfold maxLen; omega) (by omega) ?_); intro v' w1 hrow1 hgrow1 hblk1))
        refine ⟨⟨i + 1, td ++ [k], by simp, by omega, by simp; omega, hM'.out.push _ k hrow1 hgrow1 hblk1, hI.root e hpt ht hn (fun _ => rfl)⟩, ?_⟩
        simp only [intOf]
        omega
    · obtain rfl : i = 6 := by omega
      have hI6 := hid (hI.wide (fun _ => rfl))
      clear hM hI
      go_wp2
      simp only [show ((6 : Nat) : Int) = 6 from rfl]
      go_loopw [6] (fun v6 wr => ∃ (inn : Nat → Bool) (td : List Nat), RcM w wr T inn td v6 ∧ RIw T r inn td ∧ leftW T inn T.length + td.length ≤ 1000006) (fun v6 wr => leftM T w.heap.size wr + lenV v6)
      case atStart => exact ⟨_, td, hM'.out, hI6.out, by rw [leftW_none]; omega⟩
      case round =>
        obtain ⟨inn, td, hM, hI, hbd⟩ := hrel
        have hM' := hid hM
        have hI' := hid hI
        obtain ⟨ta, tcap, etv, hta, htc⟩ := row_slice hM.row
        subst etv
        by_cases h0 : td = []
        · subst h0
          go_wp2
          go_ret
          exact ⟨rfl, by rw [← hI'.out.done]; exact hM'.out.inr, hM'.out.ch⟩
        · obtain ⟨td, k, rfl⟩ : ∃ td' k, td = td' ++ [k] := ⟨td.dropLast, td.getLast h0, (List.dropLast_concat_getLast h0).symm⟩
          obtain ⟨g, rfl⟩ : ∃ g, ta = some ⟨g, 0, none⟩ := hta.resolve_left (by simp)
          have hlk : (td ++ [k]).length = td.length + 1 := by simp
          have hkT := (hI.st k (by simp)).2
          have hrow := hM.row
          rw [hlk] at hrow hM' hbd htc ⊢
          have htc1 : td.length ≤ tcap := by omega
          have htc2 : ¬ tcap = 0 := by omega
          have htc3 : ¬ tcap < td.length := by omega
          have hlast : wr.cell? ⟨g, td.length, none⟩ = some (.int .i64 (k : Nat)) := row_cell hrow td.length _ (by simp)
          have hcut : wr.ownsRow 0 3 1 (.slice (some ⟨g, 0, none⟩) td.length tcap) td.length (td.map fun k => .int .i64 (k : Nat)) := own_cut (by simpa using hrow)
          have hkc : wr.cell? ⟨w.heap.size, k, none⟩ = some (.bool (inn k)) := by
            have := bRow_at inn hkT
            unfold World.cell?
            rw [hM.inr]
            exact this
          have hkf : wr.frozen? ⟨w.heap.size, k, none⟩ = false := by unfold World.frozen?; rw [hM.inr]; rfl
          have hkI : ((k : Nat) : Int) < (T.length : Int) := by omega
          have hk0 : ¬ ((k : Nat) : Int) < 0 := by omega
          have hw1 : IntKind.i64.wrap (((td.length + 1 : Nat) : Int) - 1) = ((td.length : Nat) : Int) := by rw [IntWalk.i64_in _ (by omega)]; omega
          have hC1 := hid hcut
          clear hM hI hrow hcut
          cases hin : inn k with
          | true =>
            rw [hin] at hkc
            go_wp2
            refine ⟨⟨inn, td, hM'.out.pop hC1.out, hI'.out.old hin, by omega⟩, ?_⟩
            simp only [lenV]
            omega
          | false =>
            rw [hin] at hkc
            obtain ⟨t, ht⟩ : ∃ t, T[k]? = some t := ⟨_, List.getElem?_eq_getElem hkT⟩
            obtain ⟨lg, rfl⟩ : ∃ lg, la = some ⟨lg, 0, none⟩ := hla.resolve_left (by omega)
            subst elv
            have hlw := leftW_set (T := T) hin hkT
            have hlt : lenAt T k = t.l.length + 1 := by simp [lenAt, thOf_at ht]
            have hud := ad_used ht
            have hst : t.size = t.l.length + 1 := rfl
            have hMM := hid ((hM'.out.pop hC1.out).mark hkT)
            have hII := hid hI'.out.enter
            have hsk : setB inn k k = true := by simp [setB]
            go_wp2
            clear hlast hkc hkf hk0
            go_loopw [6, 9] (fun v6 v9 wq => ∃ (j : Nat) (td2 : List Nat), v9 = .int .i64 (j : Nat) ∧ j ≤ t.l.length ∧ td2.length ≤ td.length + j ∧ RcM w wq T (setB inn k) td2 v6 ∧ RI T r 6 (setB inn k) td2 k j) (fun _ v9 _ => t.l.length - (intOf v9).toNat)
            case atStart => exact ⟨0, td, rfl, Nat.zero_le _, by omega, hMM.out, hII.out⟩
            case round =>
              obtain ⟨j, td2, rfl, hj, htl2, hM2, hI2⟩ := hrel
              have hM2' := hid hM2
              obtain ⟨D2, -, -⟩ := hold.out wr hM2.ch
              have hL1 : wr.cell? ⟨rb, 1, none⟩ = some (.slice (some ⟨lg, 0, none⟩) T.length lcap) := by simp [World.cell?, D2.hd]
              obtain ⟨-, -, -, q3⟩ := D2.thing ht
              obtain ⟨ta2, tcap2, etv2, hta2, -⟩ := row_slice hM2.row
              subst etv2
              by_cases ej : j = t.l.length
              · subst ej
                have e1 := leftM_at hM2.inr
                have e2 := leftM_at hM'.out.inr
                clear D2
                go_wp2
                go_roundw
                case rel => exact ⟨setB inn k, td2, hM2'.out, hI2.out ht, by omega⟩
                case measure =>
                  simp only [e1, e2]
                  simp [lenV]
                  omega
              · have hjl : j < t.l.length := by omega
                have hjI : (j : Int) < (t.l.length : Int) := by omega
                have hw2 : IntKind.i64.wrap ((j : Int) + 1) = (j : Int) + 1 := IntWalk.i64_in _ (by omega)
                obtain ⟨f0, f1, -⟩ := D2.field ht hjl
                obtain ⟨X, hX⟩ : ∃ X, wr.alloc (.cells #[.bool (clOf T k j).ptr, .int .i64 (clOf T k j).n] 43) = X := ⟨_, rfl⟩
                have hcX : Ch (fun _ => False) wr X := by rw [← hX]; exact (Ch.refl _ wr).al _
                have hBX : X.heap[wr.heap.size]? = some (.cells #[.bool (clOf T k j).ptr, .int .i64 (clOf T k j).n] 43 (0, 0)) := by rw [← hX]; exact World.alloc_heap_new wr _
                have x0 : X.cell? ⟨wr.heap.size, 0, none⟩ = some (.bool (clOf T k j).ptr) := by unfold World.cell?; rw [hBX]; rfl
                have x1 : X.cell? ⟨wr.heap.size, 1, none⟩ = some (.int .i64 (clOf T k j).n) := by unfold World.cell?; rw [hBX]; rfl
                have hMX := hM2.quiet hcX
                obtain ⟨DX, -, -⟩ := hold.out X hMX.ch
                cases hpt : (clOf T k j).ptr with
                | false =>
                  rw [hpt] at f0 x0 hX
                  have hMX' := hid hMX
                  clear hM2 D2 DX hMX hBX hcX
                  go_wp2
                  refine ⟨⟨j + 1, td2, by simp, by omega, by omega, hMX'.out, hI2.plain hpt⟩, ?_⟩
                  simp only [intOf]
                  omega
                | true =>
                  rw [hpt] at f0 x0 hX
                  obtain ⟨k2, u, hu, hn2⟩ := hwf'.out k t ht _ (clOf_mem ht hjl) hpt
                  rw [hn2] at f1 x1 hX
                  have HA := At_any X rb N T bs _ DX k2 u hu
                  have hr1 := ownsRow_keep (w' := X.alloc (.cells #[.int .i64 ((k2 : Nat) : Int)] 3)) hMX.row (fun j hj => Below.heap_alloc _ _ _ (ownsRow_lt hMX.row hj))
                  have hAc := new_one X (.int .i64 (k2 : Nat)) 3
                  have hMX' := hid hMX
                  clear hM2 D2 DX hMX hBX hcX
                  go_wp2_with (first
                    | (go_at_call 10; refine HA.mono ?_; clear HA; rintro e9 w9 ⟨rfl, hw9⟩; obtain rfl := hw9.symm)
                    | (at_builtin; go_must (refine list_append rfl (.tmp 93) (.tmp 98) 75 rfl 3 (.int .i64 0) 1 8 Try.underlying75 Try.info3 rfl (by decide) (.slice ta2 td2.length tcap2) td2.length (td2.map fun k => .int .i64 (k : Nat)) rfl hr1 ⟨X.heap.size, 0, none⟩ 1 1 [.int .i64 (k2 : Nat)] rfl rfl hAc (by simp [Value.oneCell']) (by unfold maxLen; omega) (by omega) ?_); intro v' w1 hrow1 hgrow1 hblk1))
                  refine ⟨⟨j + 1, td2 ++ [k2], by simp, by omega, by simp; omega, hMX'.out.push _ k2 hrow1 hgrow1 hblk1, hI2.field ht hjl hsk hpt hu hn2⟩, ?_⟩
                  simp only [intOf]
                  omega
end Go.Proofs.Ytidgppghakmkaaa
