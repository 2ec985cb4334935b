/-
  The program's lists: instructions.
  The program's lists: operations.
  The program's lists: handlers.
  The program's lists: functions.
-/
import Derived.Test.YtpjbfdpblgjmfaaGreatDoorMC
set_option linter.unusedVariables false
set_option linter.unusedSimpArgs false
namespace Go.Proofs.YtpjbfdpblgjmfaaGreatDoor
open Go.RowKit Go.Lib

set_option maxRecDepth 100000 in
set_option maxHeartbeats 8000000 in
theorem list_ins (w : World) (b : Nat) (s : List UInt8) (p sz : Nat) (R : Rel Cd.Ins) (g : Cd.Rd → Cd.Ins × Cd.Rd) (hR : R.Ok 4) (h : PM w b s p) (hs : s.length ≤ 4000000) (hp : p ≤ s.length) (hz : sz ≤ 2)
    (hE : ∀ (W : World) (q : Nat), PM W b s q → q ≤ s.length → Calls Tryz.prog 90 #[.pointer (some ⟨b, 0, none⟩)] W (EPost R (fun cs => ∃ a c d f : Int, cs = [.int .i64 a, .int .i64 c, .int .i64 d, .int .i64 f]) (fun cs => .agg cs.toArray) b s W (g (Cd.Rd.at_ q)))) :
    Calls Tryz.prog 89 #[ptrV b, .int .i64 sz, .func (.func 90) #[.pointer (some ⟨b, 0, none⟩)] #[]] w (LPost R 4 b s w (Cd.Rd.manyL g (Cd.Rd.num s sz (Cd.Rd.at_ p)).1 (Cd.Rd.num s sz (Cd.Rd.at_ p)).2)) := by
  have HN := hid (number_c w b s p sz h hs hp (by omega))
  have hlt := num_lt2 s p sz hz
  have hle := num_le s sz p hp
  have HS : Hid (Cd.sgn (Cd.Rd.num s sz (Cd.Rd.at_ p)).1 = ((Cd.Rd.num s sz (Cd.Rd.at_ p)).1 : Int)) := Cd.sgn_small (by omega)
  rw [HS.out] at HN
  unfold NmPost at HN
  have hok := num_fa s sz p
  have hbd := num_bad s sz p
  have hbl := h.lt
  clear h HS
  generalize Cd.Rd.num s sz (Cd.Rd.at_ p) = vr at HN hlt hok hbd hle ⊢
  obtain ⟨n, r⟩ := vr
  dsimp only at HN hlt hok hbd hle ⊢
  have HE := hid hE
  clear hE
  unfold ptrV at HN ⊢
  by_cases hr : r.fk = 0
  · obtain rfl := hok hr
    rw [errV_ok hr] at HN
    clear hok hbd hr
    cases n with
    | zero =>
      go_enter Tryz.func89, Tryz.ntmps89
      go_wp2_with (first
        | (go_at_call 83; refine HN.out.mono ?_; clear HN; rintro en w1 ⟨rfl, h1, hg1⟩
           replace h1 := hid h1
           replace hg1 := hid hg1)
        | go_in)
      refine bodyPost_ret (v := .tuple #[.slice none 0 0, .nilIface]) (by simp [results, Tryz.results89, go_sem]) rfl ⟨none, 0, 0, rfl, h1.out, hg1.out, hle, fun _ => ⟨rfl, fun _ => False, ⟨none, 0, rfl, Nat.le_refl _, fun h => absurd rfl h⟩, fun k hk => hk.elim⟩⟩
    | succ n =>
      have hn0 : (((n + 1 : Nat) : Int) == 0) = false := by simp; omega
      obtain ⟨L, hL⟩ : ∃ L : Nat, L = s.length - (p + sz) := ⟨_, rfl⟩
      have HLf := hid (fun (W : World) (hw : PM W b s (p + sz)) => left_c W b s (p + sz) hw hs hle)
      rw [← hL] at HLf
      have hLl : L ≤ 4000000 := by omega
      obtain ⟨c, hc⟩ : ∃ c : Nat, min ((n : Int) + 1) (L : Int) = c := ⟨min (n + 1) L, by omega⟩
      have hcl : c ≤ 65535 := by omega
      obtain ⟨i, hi, hzz⟩ := Option.map_eq_some_iff.1 Tryz.infoIns
      simp only [Prod.mk.injEq] at hzz
      have hmk := fun (W : World) => run_make (P := Tryz.prog) W 83 123 i (.agg #[.int .i64 0, .int .i64 0, .int .i64 0, .int .i64 0]) Tryz.underlying83 hi hzz.1 .i64 .i64 0 c (Int.le_refl _) (by omega) (by rw [hzz.2.2]; omega) (by omega)
      rw [hzz.2.1, Int.toNat_natCast, Int.toNat_zero] at hmk
      clear hL
      go_enter Tryz.func89, Tryz.ntmps89
      go_wp2_with (first
        | (go_at_call 83; refine HN.out.mono ?_; clear HN; rintro en w1 ⟨rfl, h1, hg1⟩
           replace h1 := hid h1
           replace hg1 := hid hg1)
        | (go_at_call 85; refine (HLf.out _ h1.out).mono ?_; clear HLf; rintro en w2 ⟨rfl, n2, hw2⟩; obtain rfl := hw2)
        | go_in)
      have hs1 : w.heap.size ≤ (w1.drewN n2).heap.size := hg1.out.size
      have hb1 : b < (w1.drewN n2).heap.size := Nat.lt_of_lt_of_le hbl hs1
      have HI0 : Hid (LI R 123 4 b w ((w1.drewN n2).alloc (.cells (madeCells #[.int .i64 0, .int .i64 0, .int .i64 0, .int .i64 0] (c * 4)) 123)) (.slice (some ⟨w1.heap.size, 0, none⟩) 0 c) (fun _ => False) ([] : List Cd.Ins) []) := LI.start (w1 := w1.drewN n2) hs1 hb1 (by simp) (by simp [size_madeCells]) (by unfold maxLen; omega)
      have HP0 : Hid (PM ((w1.drewN n2).alloc (.cells (madeCells #[.int .i64 0, .int .i64 0, .int .i64 0, .int .i64 0] (c * 4)) 123)) b s (p + sz)) := (Below.heap_alloc (w1.drewN n2) _ b hb1).trans h1.out
      have HG0 : Hid (w.grownBy ((w1.drewN n2).alloc (.cells (madeCells #[.int .i64 0, .int .i64 0, .int .i64 0, .int .i64 0] (c * 4)) 123)) (some b)) := grown_alloc (grown_drewN hg1.out) _
      generalize (w1.drewN n2).alloc (.cells (madeCells #[.int .i64 0, .int .i64 0, .int .i64 0, .int .i64 0] (c * 4)) 123) = W3 at HI0 HP0 HG0 ⊢
      generalize w1.heap.size = gg at HI0 ⊢
      clear hmk hs1 hb1 h1 hg1 hc hi hzz
      go_loopw [10, 32] (fun v t wr => ∃ (i q : Nat) (l : List Cd.Ins) (css : List (List Value)) (a : Option Addr) (cap : Nat) (D : Nat → Prop), t = .int .i64 i ∧ v = .slice a i cap ∧ i ≤ n + 1 ∧ l.length = i ∧ q ≤ s.length ∧ Hid (PM wr b s q) ∧ Hid (w.grownBy wr (some b)) ∧ Hid (LI R 123 4 b w wr (.slice a i cap) D l css) ∧ Hid (Cd.Rd.manyL g (n + 1) (Cd.Rd.at_ (p + sz)) = (l ++ (Cd.Rd.manyL g (n + 1 - i) (Cd.Rd.at_ q)).1, (Cd.Rd.manyL g (n + 1 - i) (Cd.Rd.at_ q)).2))) (fun _ t _ => n + 1 - (RowKit.intOf t).toNat)
      case atStart => exact ⟨0, p + sz, [], [], _, _, _, rfl, rfl, Nat.zero_le _, rfl, hle, HP0, HG0, HI0, by simp [Hid]⟩
      case round =>
        obtain ⟨i, q, l, css, a0, cap, D, rfl, rfl, hi, hll, hq, HP, HG, HI, HM⟩ := hrel
        by_cases hlt2 : i < n + 1
        · have hgl : (i : Int) < (n : Int) + 1 := by omega
          have HQ := hid (HE.out wr q HP.out hq)
          unfold EPost at HQ
          obtain ⟨k, hk⟩ : ∃ k, n + 1 - i = k + 1 := ⟨n - i, by omega⟩
          rw [hk] at HM
          rw [many_go g k (Cd.Rd.at_ q) rfl] at HM
          generalize g (Cd.Rd.at_ q) = xr at HQ HM
          obtain ⟨x, r⟩ := xr
          dsimp only at HQ HM
          by_cases hr : r.fk = 0
          · rw [errV_ok hr] at HQ
            go_wp2_with (first
              | (go_at_call 90; refine HQ.out.mono ?_; clear HQ; rintro en w4 ⟨cs, hsh, rfl, h4, hg4, hq4, hd4⟩
                 obtain ⟨a, c1, d1, f1, rfl⟩ := hsh
                 dsimp only [List.headD]
                 have hi4 := LI.each hR HI.out (grown_alloc hg4 (.cells #[Value.int .i64 a, Value.int .i64 c1, Value.int .i64 d1, Value.int .i64 f1] 123))
                 have hrow4 := hi4.row
                 rw [hll] at hrow4
                 replace h4 := hid h4
                 replace hg4 := hid hg4
                 replace hd4 := hid hd4
                 replace hi4 := hid hi4
                 replace hrow4 := hid hrow4)
              | (at_builtin; refine list_append rfl _ _ 83 rfl 123 (.agg #[.int .i64 0, .int .i64 0, .int .i64 0, .int .i64 0]) 4 32 Tryz.underlying83 Tryz.infoIns rfl (by decide) (.slice a0 i cap) i css.flatten rfl (hrow4.out.alloc _) ⟨w4.heap.size + 1, 0, none⟩ 1 1 [Value.int .i64 a, Value.int .i64 c1, Value.int .i64 d1, Value.int .i64 f1] rfl rfl (fun j u hj => by have := new_cells (w4.alloc (.cells #[Value.int .i64 a, Value.int .i64 c1, Value.int .i64 d1, Value.int .i64 f1] 123)) [Value.int .i64 a, Value.int .i64 c1, Value.int .i64 d1, Value.int .i64 f1] 123 j u hj; rw [World.size_alloc] at this; exact this) (by simp [Value.oneCell']) (by unfold maxLen; omega) (by omega) ?_
                 intro v5 w5 hr5 hg5 hat5
                 have hr5b := hid hr5
                 obtain ⟨a5, cap5, rfl, _, _⟩ := row_slice hr5
                 replace hg5 := hid hg5
                 replace hat5 := hid hat5
                 clear hr5)
              | go_in)
            obtain ⟨hfa, D1, hRx, hDk⟩ := hd4.out hr
            have hrd := rd_ok hr hfa
            have hgs : w.heap.size ≤ wr.heap.size := HG.out.size
            have hg4s : wr.heap.size ≤ w4.heap.size := hg4.out.size
            have hRx2 : R x [Value.int .i64 a, Value.int .i64 c1, Value.int .i64 d1, Value.int .i64 f1] (w4.alloc (.cells #[Value.int .i64 a, Value.int .i64 c1, Value.int .i64 d1, Value.int .i64 f1] 123)) D1 := (hR.2 _ _ _ _ _ _ hRx (fun k hk => Below.heap_alloc w4 _ k (hDk k hk).2.1) (fun _ h => h))
            have HI5 := LI.push hR hi4.out (by have := h4.out.lt; simp; omega) hRx2 (fun k hk => by
              obtain ⟨b1, b2, b3⟩ := hDk k hk
              refine ⟨by simp; omega, b3, by omega, fun e => ?_⟩
              have := ownsRow_lt HI.out.row e
              omega) (by simp; omega) (by rw [hll]; exact hr5b.out) hg5.out hat5.out
            obtain ⟨hb5, hg5b⟩ := LI.after hi4.out hg5.out (by have := h4.out.lt; simp; omega) (grown_trans HG.out (grown_alloc hg4.out _))
            go_roundw
            case rel =>
              refine ⟨i + 1, r.pos, l ++ [x], css ++ [[Value.int .i64 a, Value.int .i64 c1, Value.int .i64 d1, Value.int .i64 f1]], a5, cap5, (fun k => D k ∨ D1 k), by simp, rfl, by omega, by simp [hll], hq4, hb5.trans ((Below.heap_alloc w4 _ b h4.out.lt).trans h4.out), hg5b, HI5, ?_⟩
              rw [Hid, HM.out, show n + 1 - (i + 1) = k by omega, ← hrd]
              simp
            case measure => simp [RowKit.intOf]; omega
          · rw [errV_no hr] at HQ
            rw [many_stop g k r hr] at HM
            have HMo := hid (congrArg Prod.snd HM.out)
            dsimp only at HMo
            go_wp2_with (first
              | (go_at_call 90; refine HQ.out.mono ?_; clear HQ; rintro en w4 ⟨cs, hsh, rfl, h4, hg4, hq4, hd4⟩
                 obtain ⟨a, c1, d1, f1, rfl⟩ := hsh
                 dsimp only [List.headD]
                 replace h4 := hid h4
                 replace hg4 := hid hg4
                 clear hd4)
              | go_in)
            refine bodyPost_ret (v := .tuple #[.slice none 0 0, .iface 78 (.agg #[.int .i64 r.fk, .int .i64 r.fa])]) (by simp [results, Tryz.results89, go_sem]) rfl ⟨none, 0, 0, ?_, ?_, grown_alloc (grown_trans HG.out hg4.out) _, ?_, fun h => absurd h ?_⟩
            · rw [HMo.out, errV_no hr]
            · rw [HMo.out]; exact (Below.heap_alloc w4 _ b h4.out.lt).trans h4.out
            · rw [HMo.out]; exact hq4
            · rw [HMo.out]; exact hr
        · have ei : i = n + 1 := by omega
          subst ei
          have hgl : ¬ (((n : Int) + 1) < (n : Int) + 1) := by omega
          have HMf : Hid (Cd.Rd.manyL g (n + 1) (Cd.Rd.at_ (p + sz)) = (l, Cd.Rd.at_ q)) := by
            rw [Hid, HM.out]
            simp [Cd.Rd.manyL]
          obtain ⟨D', hd1, hd2⟩ := LI.done hR HI.out
          replace hd1 := hid hd1
          replace hd2 := hid hd2
          go_wp2
          rw [HMf.out]
          refine bodyPost_ret (v := .tuple #[.slice a0 (n + 1) cap, .nilIface]) (by simp [results, Tryz.results89, go_sem]) rfl ⟨a0, n + 1, cap, rfl, HP.out, HG.out, hq, fun _ => ⟨rfl, D', hd1.out, fun k hk => ⟨(hd2.out k hk).2.2, (hd2.out k hk).1, (hd2.out k hk).2.1⟩⟩⟩
  · have hb := hbd hr
    simp only [Prod.mk.injEq] at hb
    obtain ⟨rfl, rfl⟩ := hb
    rw [errV_no hr] at HN
    have HP : Hid (Cd.Rd.manyL g 0 ⟨p, 13, s.length⟩ = ([], ⟨p, 13, s.length⟩)) := rfl
    clear hok hbd hr
    go_enter Tryz.func89, Tryz.ntmps89
    go_wp2_with (first
      | (go_at_call 83; refine HN.out.mono ?_; clear HN; rintro en w1 ⟨rfl, h1, hg1⟩
         replace h1 := hid h1
         replace hg1 := hid hg1)
      | go_in)
    rw [HP.out]
    exact bodyPost_ret (v := .tuple #[.slice none 0 0, .iface 78 (.agg #[.int .i64 13, .int .i64 s.length])]) (by simp [results, Tryz.results89, go_sem]) rfl ⟨none, 0, 0, by rw [errV_no (by simp)]; rfl, h1.out, hg1.out, hp, fun h => by simp at h⟩
end Go.Proofs.YtpjbfdpblgjmfaaGreatDoor

namespace Go.Proofs.YtpjbfdpblgjmfaaGreatDoor
open Go.RowKit Go.Lib

set_option maxRecDepth 100000 in
set_option maxHeartbeats 8000000 in
theorem list_op (w : World) (b : Nat) (s : List UInt8) (p sz : Nat) (R : Rel Cd.Op) (g : Cd.Rd → Cd.Op × Cd.Rd) (hR : R.Ok 2) (h : PM w b s p) (hs : s.length ≤ 4000000) (hp : p ≤ s.length) (hz : sz ≤ 2)
    (hE : ∀ (W : World) (q : Nat), PM W b s q → q ≤ s.length → Calls Tryz.prog 51 #[.pointer (some ⟨b, 0, none⟩)] W (EPost R (fun cs => ∃ (t : List UInt8) (o : Bool), cs = [.string ⟨t.toArray⟩, .bool o]) (fun cs => .agg cs.toArray) b s W (g (Cd.Rd.at_ q)))) :
    Calls Tryz.prog 50 #[ptrV b, .int .i64 sz, .func (.func 51) #[.pointer (some ⟨b, 0, none⟩)] #[]] w (LPost R 2 b s w (Cd.Rd.manyL g (Cd.Rd.num s sz (Cd.Rd.at_ p)).1 (Cd.Rd.num s sz (Cd.Rd.at_ p)).2)) := by
  have HN := hid (number_c w b s p sz h hs hp (by omega))
  have hlt := num_lt2 s p sz hz
  have hle := num_le s sz p hp
  have HS : Hid (Cd.sgn (Cd.Rd.num s sz (Cd.Rd.at_ p)).1 = ((Cd.Rd.num s sz (Cd.Rd.at_ p)).1 : Int)) := Cd.sgn_small (by omega)
  rw [HS.out] at HN
  unfold NmPost at HN
  have hok := num_fa s sz p
  have hbd := num_bad s sz p
  have hbl := h.lt
  clear h HS
  generalize Cd.Rd.num s sz (Cd.Rd.at_ p) = vr at HN hlt hok hbd hle ⊢
  obtain ⟨n, r⟩ := vr
  dsimp only at HN hlt hok hbd hle ⊢
  have HE := hid hE
  clear hE
  unfold ptrV at HN ⊢
  by_cases hr : r.fk = 0
  · obtain rfl := hok hr
    rw [errV_ok hr] at HN
    clear hok hbd hr
    cases n with
    | zero =>
      go_enter Tryz.func50, Tryz.ntmps50
      go_wp2_with (first
        | (go_at_call 83; refine HN.out.mono ?_; clear HN; rintro en w1 ⟨rfl, h1, hg1⟩
           replace h1 := hid h1
           replace hg1 := hid hg1)
        | go_in)
      refine bodyPost_ret (v := .tuple #[.slice none 0 0, .nilIface]) (by simp [results, Tryz.results50, go_sem]) rfl ⟨none, 0, 0, rfl, h1.out, hg1.out, hle, fun _ => ⟨rfl, fun _ => False, ⟨none, 0, rfl, Nat.le_refl _, fun h => absurd rfl h⟩, fun k hk => hk.elim⟩⟩
    | succ n =>
      have hn0 : (((n + 1 : Nat) : Int) == 0) = false := by simp; omega
      obtain ⟨L, hL⟩ : ∃ L : Nat, L = s.length - (p + sz) := ⟨_, rfl⟩
      have HLf := hid (fun (W : World) (hw : PM W b s (p + sz)) => left_c W b s (p + sz) hw hs hle)
      rw [← hL] at HLf
      have hLl : L ≤ 4000000 := by omega
      obtain ⟨c, hc⟩ : ∃ c : Nat, min ((n : Int) + 1) (L : Int) = c := ⟨min (n + 1) L, by omega⟩
      have hcl : c ≤ 65535 := by omega
      obtain ⟨i, hi, hzz⟩ := Option.map_eq_some_iff.1 Tryz.infoOp
      simp only [Prod.mk.injEq] at hzz
      have hmk := fun (W : World) => run_make (P := Tryz.prog) W 34 119 i (.agg #[.string ⟨#[]⟩, .bool false]) Tryz.underlying34 hi hzz.1 .i64 .i64 0 c (Int.le_refl _) (by omega) (by rw [hzz.2.2]; omega) (by omega)
      rw [hzz.2.1, Int.toNat_natCast, Int.toNat_zero] at hmk
      clear hL
      go_enter Tryz.func50, Tryz.ntmps50
      go_wp2_with (first
        | (go_at_call 83; refine HN.out.mono ?_; clear HN; rintro en w1 ⟨rfl, h1, hg1⟩
           replace h1 := hid h1
           replace hg1 := hid hg1)
        | (go_at_call 85; refine (HLf.out _ h1.out).mono ?_; clear HLf; rintro en w2 ⟨rfl, n2, hw2⟩; obtain rfl := hw2)
        | go_in)
      have hs1 : w.heap.size ≤ (w1.drewN n2).heap.size := hg1.out.size
      have hb1 : b < (w1.drewN n2).heap.size := Nat.lt_of_lt_of_le hbl hs1
      have HI0 : Hid (LI R 119 2 b w ((w1.drewN n2).alloc (.cells (madeCells #[.string ⟨#[]⟩, .bool false] (c * 2)) 119)) (.slice (some ⟨w1.heap.size, 0, none⟩) 0 c) (fun _ => False) ([] : List Cd.Op) []) := LI.start (w1 := w1.drewN n2) hs1 hb1 (by simp) (by simp [size_madeCells]) (by unfold maxLen; omega)
      have HP0 : Hid (PM ((w1.drewN n2).alloc (.cells (madeCells #[.string ⟨#[]⟩, .bool false] (c * 2)) 119)) b s (p + sz)) := (Below.heap_alloc (w1.drewN n2) _ b hb1).trans h1.out
      have HG0 : Hid (w.grownBy ((w1.drewN n2).alloc (.cells (madeCells #[.string ⟨#[]⟩, .bool false] (c * 2)) 119)) (some b)) := grown_alloc (grown_drewN hg1.out) _
      generalize (w1.drewN n2).alloc (.cells (madeCells #[.string ⟨#[]⟩, .bool false] (c * 2)) 119) = W3 at HI0 HP0 HG0 ⊢
      generalize w1.heap.size = gg at HI0 ⊢
      clear hmk hs1 hb1 h1 hg1 hc hi hzz
      go_loopw [10, 32] (fun v t wr => ∃ (i q : Nat) (l : List Cd.Op) (css : List (List Value)) (a : Option Addr) (cap : Nat) (D : Nat → Prop), t = .int .i64 i ∧ v = .slice a i cap ∧ i ≤ n + 1 ∧ l.length = i ∧ q ≤ s.length ∧ Hid (PM wr b s q) ∧ Hid (w.grownBy wr (some b)) ∧ Hid (LI R 119 2 b w wr (.slice a i cap) D l css) ∧ Hid (Cd.Rd.manyL g (n + 1) (Cd.Rd.at_ (p + sz)) = (l ++ (Cd.Rd.manyL g (n + 1 - i) (Cd.Rd.at_ q)).1, (Cd.Rd.manyL g (n + 1 - i) (Cd.Rd.at_ q)).2))) (fun _ t _ => n + 1 - (RowKit.intOf t).toNat)
      case atStart => exact ⟨0, p + sz, [], [], _, _, _, rfl, rfl, Nat.zero_le _, rfl, hle, HP0, HG0, HI0, by simp [Hid]⟩
      case round =>
        obtain ⟨i, q, l, css, a0, cap, D, rfl, rfl, hi, hll, hq, HP, HG, HI, HM⟩ := hrel
        by_cases hlt2 : i < n + 1
        · have hgl : (i : Int) < (n : Int) + 1 := by omega
          have HQ := hid (HE.out wr q HP.out hq)
          unfold EPost at HQ
          obtain ⟨k, hk⟩ : ∃ k, n + 1 - i = k + 1 := ⟨n - i, by omega⟩
          rw [hk] at HM
          rw [many_go g k (Cd.Rd.at_ q) rfl] at HM
          generalize g (Cd.Rd.at_ q) = xr at HQ HM
          obtain ⟨x, r⟩ := xr
          dsimp only at HQ HM
          by_cases hr : r.fk = 0
          · rw [errV_ok hr] at HQ
            go_wp2_with (first
              | (go_at_call 51; refine HQ.out.mono ?_; clear HQ; rintro en w4 ⟨cs, hsh, rfl, h4, hg4, hq4, hd4⟩
                 obtain ⟨t1, o1, rfl⟩ := hsh
                 dsimp only [List.headD]
                 have hi4 := LI.each hR HI.out (grown_alloc hg4 (.cells #[Value.string ⟨t1.toArray⟩, Value.bool o1] 119))
                 have hrow4 := hi4.row
                 rw [hll] at hrow4
                 replace h4 := hid h4
                 replace hg4 := hid hg4
                 replace hd4 := hid hd4
                 replace hi4 := hid hi4
                 replace hrow4 := hid hrow4)
              | (at_builtin; refine list_append rfl _ _ 34 rfl 119 (.agg #[.string ⟨#[]⟩, .bool false]) 2 24 Tryz.underlying34 Tryz.infoOp rfl (by decide) (.slice a0 i cap) i css.flatten rfl (hrow4.out.alloc _) ⟨w4.heap.size + 1, 0, none⟩ 1 1 [Value.string ⟨t1.toArray⟩, Value.bool o1] rfl rfl (fun j u hj => by have := new_cells (w4.alloc (.cells #[Value.string ⟨t1.toArray⟩, Value.bool o1] 119)) [Value.string ⟨t1.toArray⟩, Value.bool o1] 119 j u hj; rw [World.size_alloc] at this; exact this) (by simp [Value.oneCell']) (by unfold maxLen; omega) (by omega) ?_
                 intro v5 w5 hr5 hg5 hat5
                 have hr5b := hid hr5
                 obtain ⟨a5, cap5, rfl, _, _⟩ := row_slice hr5
                 replace hg5 := hid hg5
                 replace hat5 := hid hat5
                 clear hr5)
              | go_in)
            obtain ⟨hfa, D1, hRx, hDk⟩ := hd4.out hr
            have hrd := rd_ok hr hfa
            have hgs : w.heap.size ≤ wr.heap.size := HG.out.size
            have hg4s : wr.heap.size ≤ w4.heap.size := hg4.out.size
            have hRx2 : R x [Value.string ⟨t1.toArray⟩, Value.bool o1] (w4.alloc (.cells #[Value.string ⟨t1.toArray⟩, Value.bool o1] 119)) D1 := (hR.2 _ _ _ _ _ _ hRx (fun k hk => Below.heap_alloc w4 _ k (hDk k hk).2.1) (fun _ h => h))
            have HI5 := LI.push hR hi4.out (by have := h4.out.lt; simp; omega) hRx2 (fun k hk => by
              obtain ⟨b1, b2, b3⟩ := hDk k hk
              refine ⟨by simp; omega, b3, by omega, fun e => ?_⟩
              have := ownsRow_lt HI.out.row e
              omega) (by simp; omega) (by rw [hll]; exact hr5b.out) hg5.out hat5.out
            obtain ⟨hb5, hg5b⟩ := LI.after hi4.out hg5.out (by have := h4.out.lt; simp; omega) (grown_trans HG.out (grown_alloc hg4.out _))
            go_roundw
            case rel =>
              refine ⟨i + 1, r.pos, l ++ [x], css ++ [[Value.string ⟨t1.toArray⟩, Value.bool o1]], a5, cap5, (fun k => D k ∨ D1 k), by simp, rfl, by omega, by simp [hll], hq4, hb5.trans ((Below.heap_alloc w4 _ b h4.out.lt).trans h4.out), hg5b, HI5, ?_⟩
              rw [Hid, HM.out, show n + 1 - (i + 1) = k by omega, ← hrd]
              simp
            case measure => simp [RowKit.intOf]; omega
          · rw [errV_no hr] at HQ
            rw [many_stop g k r hr] at HM
            have HMo := hid (congrArg Prod.snd HM.out)
            dsimp only at HMo
            go_wp2_with (first
              | (go_at_call 51; refine HQ.out.mono ?_; clear HQ; rintro en w4 ⟨cs, hsh, rfl, h4, hg4, hq4, hd4⟩
                 obtain ⟨t1, o1, rfl⟩ := hsh
                 dsimp only [List.headD]
                 replace h4 := hid h4
                 replace hg4 := hid hg4
                 clear hd4)
              | go_in)
            refine bodyPost_ret (v := .tuple #[.slice none 0 0, .iface 78 (.agg #[.int .i64 r.fk, .int .i64 r.fa])]) (by simp [results, Tryz.results50, go_sem]) rfl ⟨none, 0, 0, ?_, ?_, grown_alloc (grown_trans HG.out hg4.out) _, ?_, fun h => absurd h ?_⟩
            · rw [HMo.out, errV_no hr]
            · rw [HMo.out]; exact (Below.heap_alloc w4 _ b h4.out.lt).trans h4.out
            · rw [HMo.out]; exact hq4
            · rw [HMo.out]; exact hr
        · have ei : i = n + 1 := by omega
          subst ei
          have hgl : ¬ (((n : Int) + 1) < (n : Int) + 1) := by omega
          have HMf : Hid (Cd.Rd.manyL g (n + 1) (Cd.Rd.at_ (p + sz)) = (l, Cd.Rd.at_ q)) := by
            rw [Hid, HM.out]
            simp [Cd.Rd.manyL]
          obtain ⟨D', hd1, hd2⟩ := LI.done hR HI.out
          replace hd1 := hid hd1
          replace hd2 := hid hd2
          go_wp2
          rw [HMf.out]
          refine bodyPost_ret (v := .tuple #[.slice a0 (n + 1) cap, .nilIface]) (by simp [results, Tryz.results50, go_sem]) rfl ⟨a0, n + 1, cap, rfl, HP.out, HG.out, hq, fun _ => ⟨rfl, D', hd1.out, fun k hk => ⟨(hd2.out k hk).2.2, (hd2.out k hk).1, (hd2.out k hk).2.1⟩⟩⟩
  · have hb := hbd hr
    simp only [Prod.mk.injEq] at hb
    obtain ⟨rfl, rfl⟩ := hb
    rw [errV_no hr] at HN
    have HP : Hid (Cd.Rd.manyL g 0 ⟨p, 13, s.length⟩ = ([], ⟨p, 13, s.length⟩)) := rfl
    clear hok hbd hr
    go_enter Tryz.func50, Tryz.ntmps50
    go_wp2_with (first
      | (go_at_call 83; refine HN.out.mono ?_; clear HN; rintro en w1 ⟨rfl, h1, hg1⟩
         replace h1 := hid h1
         replace hg1 := hid hg1)
      | go_in)
    rw [HP.out]
    exact bodyPost_ret (v := .tuple #[.slice none 0 0, .iface 78 (.agg #[.int .i64 13, .int .i64 s.length])]) (by simp [results, Tryz.results50, go_sem]) rfl ⟨none, 0, 0, by rw [errV_no (by simp)]; rfl, h1.out, hg1.out, hp, fun h => by simp at h⟩
end Go.Proofs.YtpjbfdpblgjmfaaGreatDoor

namespace Go.Proofs.YtpjbfdpblgjmfaaGreatDoor
open Go.RowKit Go.Lib

set_option maxRecDepth 100000 in
set_option maxHeartbeats 8000000 in
theorem list_han (w : World) (b : Nat) (s : List UInt8) (p sz : Nat) (R : Rel Cd.Han) (g : Cd.Rd → Cd.Han × Cd.Rd) (hR : R.Ok 2) (h : PM w b s p) (hs : s.length ≤ 4000000) (hp : p ≤ s.length) (hz : sz ≤ 2)
    (hE : ∀ (W : World) (q : Nat), PM W b s q → q ≤ s.length → Calls Tryz.prog 53 #[.pointer (some ⟨b, 0, none⟩)] W (EPost R (fun cs => ∃ (o : Bool) (va : Option Addr) (vn vc : Nat), cs = [.bool o, .slice va vn vc]) (fun cs => .agg cs.toArray) b s W (g (Cd.Rd.at_ q)))) :
    Calls Tryz.prog 52 #[ptrV b, .int .i64 sz, .func (.func 53) #[.pointer (some ⟨b, 0, none⟩)] #[]] w (LPost R 2 b s w (Cd.Rd.manyL g (Cd.Rd.num s sz (Cd.Rd.at_ p)).1 (Cd.Rd.num s sz (Cd.Rd.at_ p)).2)) := by
  have HN := hid (number_c w b s p sz h hs hp (by omega))
  have hlt := num_lt2 s p sz hz
  have hle := num_le s sz p hp
  have HS : Hid (Cd.sgn (Cd.Rd.num s sz (Cd.Rd.at_ p)).1 = ((Cd.Rd.num s sz (Cd.Rd.at_ p)).1 : Int)) := Cd.sgn_small (by omega)
  rw [HS.out] at HN
  unfold NmPost at HN
  have hok := num_fa s sz p
  have hbd := num_bad s sz p
  have hbl := h.lt
  clear h HS
  generalize Cd.Rd.num s sz (Cd.Rd.at_ p) = vr at HN hlt hok hbd hle ⊢
  obtain ⟨n, r⟩ := vr
  dsimp only at HN hlt hok hbd hle ⊢
  have HE := hid hE
  clear hE
  unfold ptrV at HN ⊢
  by_cases hr : r.fk = 0
  · obtain rfl := hok hr
    rw [errV_ok hr] at HN
    clear hok hbd hr
    cases n with
    | zero =>
      go_enter Tryz.func52, Tryz.ntmps52
      go_wp2_with (first
        | (go_at_call 83; refine HN.out.mono ?_; clear HN; rintro en w1 ⟨rfl, h1, hg1⟩
           replace h1 := hid h1
           replace hg1 := hid hg1)
        | go_in)
      refine bodyPost_ret (v := .tuple #[.slice none 0 0, .nilIface]) (by simp [results, Tryz.results52, go_sem]) rfl ⟨none, 0, 0, rfl, h1.out, hg1.out, hle, fun _ => ⟨rfl, fun _ => False, ⟨none, 0, rfl, Nat.le_refl _, fun h => absurd rfl h⟩, fun k hk => hk.elim⟩⟩
    | succ n =>
      have hn0 : (((n + 1 : Nat) : Int) == 0) = false := by simp; omega
      obtain ⟨L, hL⟩ : ∃ L : Nat, L = s.length - (p + sz) := ⟨_, rfl⟩
      have HLf := hid (fun (W : World) (hw : PM W b s (p + sz)) => left_c W b s (p + sz) hw hs hle)
      rw [← hL] at HLf
      have hLl : L ≤ 4000000 := by omega
      obtain ⟨c, hc⟩ : ∃ c : Nat, min ((n : Int) + 1) (L : Int) = c := ⟨min (n + 1) L, by omega⟩
      have hcl : c ≤ 65535 := by omega
      obtain ⟨i, hi, hzz⟩ := Option.map_eq_some_iff.1 Tryz.infoHan
      simp only [Prod.mk.injEq] at hzz
      have hmk := fun (W : World) => run_make (P := Tryz.prog) W 35 121 i (.agg #[.bool false, .slice none 0 0]) Tryz.underlying35 hi hzz.1 .i64 .i64 0 c (Int.le_refl _) (by omega) (by rw [hzz.2.2]; omega) (by omega)
      rw [hzz.2.1, Int.toNat_natCast, Int.toNat_zero] at hmk
      clear hL
      go_enter Tryz.func52, Tryz.ntmps52
      go_wp2_with (first
        | (go_at_call 83; refine HN.out.mono ?_; clear HN; rintro en w1 ⟨rfl, h1, hg1⟩
           replace h1 := hid h1
           replace hg1 := hid hg1)
        | (go_at_call 85; refine (HLf.out _ h1.out).mono ?_; clear HLf; rintro en w2 ⟨rfl, n2, hw2⟩; obtain rfl := hw2)
        | go_in)
      have hs1 : w.heap.size ≤ (w1.drewN n2).heap.size := hg1.out.size
      have hb1 : b < (w1.drewN n2).heap.size := Nat.lt_of_lt_of_le hbl hs1
      have HI0 : Hid (LI R 121 2 b w ((w1.drewN n2).alloc (.cells (madeCells #[.bool false, .slice none 0 0] (c * 2)) 121)) (.slice (some ⟨w1.heap.size, 0, none⟩) 0 c) (fun _ => False) ([] : List Cd.Han) []) := LI.start (w1 := w1.drewN n2) hs1 hb1 (by simp) (by simp [size_madeCells]) (by unfold maxLen; omega)
      have HP0 : Hid (PM ((w1.drewN n2).alloc (.cells (madeCells #[.bool false, .slice none 0 0] (c * 2)) 121)) b s (p + sz)) := (Below.heap_alloc (w1.drewN n2) _ b hb1).trans h1.out
      have HG0 : Hid (w.grownBy ((w1.drewN n2).alloc (.cells (madeCells #[.bool false, .slice none 0 0] (c * 2)) 121)) (some b)) := grown_alloc (grown_drewN hg1.out) _
      generalize (w1.drewN n2).alloc (.cells (madeCells #[.bool false, .slice none 0 0] (c * 2)) 121) = W3 at HI0 HP0 HG0 ⊢
      generalize w1.heap.size = gg at HI0 ⊢
      clear hmk hs1 hb1 h1 hg1 hc hi hzz
      go_loopw [10, 32] (fun v t wr => ∃ (i q : Nat) (l : List Cd.Han) (css : List (List Value)) (a : Option Addr) (cap : Nat) (D : Nat → Prop), t = .int .i64 i ∧ v = .slice a i cap ∧ i ≤ n + 1 ∧ l.length = i ∧ q ≤ s.length ∧ Hid (PM wr b s q) ∧ Hid (w.grownBy wr (some b)) ∧ Hid (LI R 121 2 b w wr (.slice a i cap) D l css) ∧ Hid (Cd.Rd.manyL g (n + 1) (Cd.Rd.at_ (p + sz)) = (l ++ (Cd.Rd.manyL g (n + 1 - i) (Cd.Rd.at_ q)).1, (Cd.Rd.manyL g (n + 1 - i) (Cd.Rd.at_ q)).2))) (fun _ t _ => n + 1 - (RowKit.intOf t).toNat)
      case atStart => exact ⟨0, p + sz, [], [], _, _, _, rfl, rfl, Nat.zero_le _, rfl, hle, HP0, HG0, HI0, by simp [Hid]⟩
      case round =>
        obtain ⟨i, q, l, css, a0, cap, D, rfl, rfl, hi, hll, hq, HP, HG, HI, HM⟩ := hrel
        by_cases hlt2 : i < n + 1
        · have hgl : (i : Int) < (n : Int) + 1 := by omega
          have HQ := hid (HE.out wr q HP.out hq)
          unfold EPost at HQ
          obtain ⟨k, hk⟩ : ∃ k, n + 1 - i = k + 1 := ⟨n - i, by omega⟩
          rw [hk] at HM
          rw [many_go g k (Cd.Rd.at_ q) rfl] at HM
          generalize g (Cd.Rd.at_ q) = xr at HQ HM
          obtain ⟨x, r⟩ := xr
          dsimp only at HQ HM
          by_cases hr : r.fk = 0
          · rw [errV_ok hr] at HQ
            go_wp2_with (first
              | (go_at_call 53; refine HQ.out.mono ?_; clear HQ; rintro en w4 ⟨cs, hsh, rfl, h4, hg4, hq4, hd4⟩
                 obtain ⟨o1, va, vn, vc, rfl⟩ := hsh
                 dsimp only [List.headD]
                 have hi4 := LI.each hR HI.out (grown_alloc hg4 (.cells #[Value.bool o1, Value.slice va vn vc] 121))
                 have hrow4 := hi4.row
                 rw [hll] at hrow4
                 replace h4 := hid h4
                 replace hg4 := hid hg4
                 replace hd4 := hid hd4
                 replace hi4 := hid hi4
                 replace hrow4 := hid hrow4)
              | (at_builtin; refine list_append rfl _ _ 35 rfl 121 (.agg #[.bool false, .slice none 0 0]) 2 32 Tryz.underlying35 Tryz.infoHan rfl (by decide) (.slice a0 i cap) i css.flatten rfl (hrow4.out.alloc _) ⟨w4.heap.size + 1, 0, none⟩ 1 1 [Value.bool o1, Value.slice va vn vc] rfl rfl (fun j u hj => by have := new_cells (w4.alloc (.cells #[Value.bool o1, Value.slice va vn vc] 121)) [Value.bool o1, Value.slice va vn vc] 121 j u hj; rw [World.size_alloc] at this; exact this) (by simp [Value.oneCell']) (by unfold maxLen; omega) (by omega) ?_
                 intro v5 w5 hr5 hg5 hat5
                 have hr5b := hid hr5
                 obtain ⟨a5, cap5, rfl, _, _⟩ := row_slice hr5
                 replace hg5 := hid hg5
                 replace hat5 := hid hat5
                 clear hr5)
              | go_in)
            obtain ⟨hfa, D1, hRx, hDk⟩ := hd4.out hr
            have hrd := rd_ok hr hfa
            have hgs : w.heap.size ≤ wr.heap.size := HG.out.size
            have hg4s : wr.heap.size ≤ w4.heap.size := hg4.out.size
            have hRx2 : R x [Value.bool o1, Value.slice va vn vc] (w4.alloc (.cells #[Value.bool o1, Value.slice va vn vc] 121)) D1 := (hR.2 _ _ _ _ _ _ hRx (fun k hk => Below.heap_alloc w4 _ k (hDk k hk).2.1) (fun _ h => h))
            have HI5 := LI.push hR hi4.out (by have := h4.out.lt; simp; omega) hRx2 (fun k hk => by
              obtain ⟨b1, b2, b3⟩ := hDk k hk
              refine ⟨by simp; omega, b3, by omega, fun e => ?_⟩
              have := ownsRow_lt HI.out.row e
              omega) (by simp; omega) (by rw [hll]; exact hr5b.out) hg5.out hat5.out
            obtain ⟨hb5, hg5b⟩ := LI.after hi4.out hg5.out (by have := h4.out.lt; simp; omega) (grown_trans HG.out (grown_alloc hg4.out _))
            go_roundw
            case rel =>
              refine ⟨i + 1, r.pos, l ++ [x], css ++ [[Value.bool o1, Value.slice va vn vc]], a5, cap5, (fun k => D k ∨ D1 k), by simp, rfl, by omega, by simp [hll], hq4, hb5.trans ((Below.heap_alloc w4 _ b h4.out.lt).trans h4.out), hg5b, HI5, ?_⟩
              rw [Hid, HM.out, show n + 1 - (i + 1) = k by omega, ← hrd]
              simp
            case measure => simp [RowKit.intOf]; omega
          · rw [errV_no hr] at HQ
            rw [many_stop g k r hr] at HM
            have HMo := hid (congrArg Prod.snd HM.out)
            dsimp only at HMo
            go_wp2_with (first
              | (go_at_call 53; refine HQ.out.mono ?_; clear HQ; rintro en w4 ⟨cs, hsh, rfl, h4, hg4, hq4, hd4⟩
                 obtain ⟨o1, va, vn, vc, rfl⟩ := hsh
                 dsimp only [List.headD]
                 replace h4 := hid h4
                 replace hg4 := hid hg4
                 clear hd4)
              | go_in)
            refine bodyPost_ret (v := .tuple #[.slice none 0 0, .iface 78 (.agg #[.int .i64 r.fk, .int .i64 r.fa])]) (by simp [results, Tryz.results52, go_sem]) rfl ⟨none, 0, 0, ?_, ?_, grown_alloc (grown_trans HG.out hg4.out) _, ?_, fun h => absurd h ?_⟩
            · rw [HMo.out, errV_no hr]
            · rw [HMo.out]; exact (Below.heap_alloc w4 _ b h4.out.lt).trans h4.out
            · rw [HMo.out]; exact hq4
            · rw [HMo.out]; exact hr
        · have ei : i = n + 1 := by omega
          subst ei
          have hgl : ¬ (((n : Int) + 1) < (n : Int) + 1) := by omega
          have HMf : Hid (Cd.Rd.manyL g (n + 1) (Cd.Rd.at_ (p + sz)) = (l, Cd.Rd.at_ q)) := by
            rw [Hid, HM.out]
            simp [Cd.Rd.manyL]
          obtain ⟨D', hd1, hd2⟩ := LI.done hR HI.out
          replace hd1 := hid hd1
          replace hd2 := hid hd2
          go_wp2
          rw [HMf.out]
          refine bodyPost_ret (v := .tuple #[.slice a0 (n + 1) cap, .nilIface]) (by simp [results, Tryz.results52, go_sem]) rfl ⟨a0, n + 1, cap, rfl, HP.out, HG.out, hq, fun _ => ⟨rfl, D', hd1.out, fun k hk => ⟨(hd2.out k hk).2.2, (hd2.out k hk).1, (hd2.out k hk).2.1⟩⟩⟩
  · have hb := hbd hr
    simp only [Prod.mk.injEq] at hb
    obtain ⟨rfl, rfl⟩ := hb
    rw [errV_no hr] at HN
    have HP : Hid (Cd.Rd.manyL g 0 ⟨p, 13, s.length⟩ = ([], ⟨p, 13, s.length⟩)) := rfl
    clear hok hbd hr
    go_enter Tryz.func52, Tryz.ntmps52
    go_wp2_with (first
      | (go_at_call 83; refine HN.out.mono ?_; clear HN; rintro en w1 ⟨rfl, h1, hg1⟩
         replace h1 := hid h1
         replace hg1 := hid hg1)
      | go_in)
    rw [HP.out]
    exact bodyPost_ret (v := .tuple #[.slice none 0 0, .iface 78 (.agg #[.int .i64 13, .int .i64 s.length])]) (by simp [results, Tryz.results52, go_sem]) rfl ⟨none, 0, 0, by rw [errV_no (by simp)]; rfl, h1.out, hg1.out, hp, fun h => by simp at h⟩
end Go.Proofs.YtpjbfdpblgjmfaaGreatDoor

namespace Go.Proofs.YtpjbfdpblgjmfaaGreatDoor
open Go.RowKit Go.Lib

set_option maxRecDepth 100000 in
set_option maxHeartbeats 8000000 in
theorem list_fun (w : World) (b : Nat) (s : List UInt8) (p sz : Nat) (R : Rel Cd.Fun) (g : Cd.Rd → Cd.Fun × Cd.Rd) (hR : R.Ok 3) (h : PM w b s p) (hs : s.length ≤ 4000000) (hp : p ≤ s.length) (hz : sz ≤ 2)
    (hE : ∀ (W : World) (q : Nat), PM W b s q → q ≤ s.length → Calls Tryz.prog 55 #[.pointer (some ⟨b, 0, none⟩)] W (EPost R (fun cs => ∃ (a c : Int) (va : Option Addr) (vn vc : Nat), cs = [.int .i64 a, .int .i64 c, .slice va vn vc]) (fun cs => .agg cs.toArray) b s W (g (Cd.Rd.at_ q)))) :
    Calls Tryz.prog 54 #[ptrV b, .int .i64 sz, .func (.func 55) #[.pointer (some ⟨b, 0, none⟩)] #[]] w (LPost R 3 b s w (Cd.Rd.manyL g (Cd.Rd.num s sz (Cd.Rd.at_ p)).1 (Cd.Rd.num s sz (Cd.Rd.at_ p)).2)) := by
  have HN := hid (number_c w b s p sz h hs hp (by omega))
  have hlt := num_lt2 s p sz hz
  have hle := num_le s sz p hp
  have HS : Hid (Cd.sgn (Cd.Rd.num s sz (Cd.Rd.at_ p)).1 = ((Cd.Rd.num s sz (Cd.Rd.at_ p)).1 : Int)) := Cd.sgn_small (by omega)
  rw [HS.out] at HN
  unfold NmPost at HN
  have hok := num_fa s sz p
  have hbd := num_bad s sz p
  have hbl := h.lt
  clear h HS
  generalize Cd.Rd.num s sz (Cd.Rd.at_ p) = vr at HN hlt hok hbd hle ⊢
  obtain ⟨n, r⟩ := vr
  dsimp only at HN hlt hok hbd hle ⊢
  have HE := hid hE
  clear hE
  unfold ptrV at HN ⊢
  by_cases hr : r.fk = 0
  · obtain rfl := hok hr
    rw [errV_ok hr] at HN
    clear hok hbd hr
    cases n with
    | zero =>
      go_enter Tryz.func54, Tryz.ntmps54
      go_wp2_with (first
        | (go_at_call 83; refine HN.out.mono ?_; clear HN; rintro en w1 ⟨rfl, h1, hg1⟩
           replace h1 := hid h1
           replace hg1 := hid hg1)
        | go_in)
      refine bodyPost_ret (v := .tuple #[.slice none 0 0, .nilIface]) (by simp [results, Tryz.results54, go_sem]) rfl ⟨none, 0, 0, rfl, h1.out, hg1.out, hle, fun _ => ⟨rfl, fun _ => False, ⟨none, 0, rfl, Nat.le_refl _, fun h => absurd rfl h⟩, fun k hk => hk.elim⟩⟩
    | succ n =>
      have hn0 : (((n + 1 : Nat) : Int) == 0) = false := by simp; omega
      obtain ⟨L, hL⟩ : ∃ L : Nat, L = s.length - (p + sz) := ⟨_, rfl⟩
      have HLf := hid (fun (W : World) (hw : PM W b s (p + sz)) => left_c W b s (p + sz) hw hs hle)
      rw [← hL] at HLf
      have hLl : L ≤ 4000000 := by omega
      obtain ⟨c, hc⟩ : ∃ c : Nat, min ((n : Int) + 1) (L : Int) = c := ⟨min (n + 1) L, by omega⟩
      have hcl : c ≤ 65535 := by omega
      obtain ⟨i, hi, hzz⟩ := Option.map_eq_some_iff.1 Tryz.infoFun
      simp only [Prod.mk.injEq] at hzz
      have hmk := fun (W : World) => run_make (P := Tryz.prog) W 36 85 i (.agg #[.int .i64 0, .int .i64 0, .slice none 0 0]) Tryz.underlying36 hi hzz.1 .i64 .i64 0 c (Int.le_refl _) (by omega) (by rw [hzz.2.2]; omega) (by omega)
      rw [hzz.2.1, Int.toNat_natCast, Int.toNat_zero] at hmk
      clear hL
      go_enter Tryz.func54, Tryz.ntmps54
      go_wp2_with (first
        | (go_at_call 83; refine HN.out.mono ?_; clear HN; rintro en w1 ⟨rfl, h1, hg1⟩
           replace h1 := hid h1
           replace hg1 := hid hg1)
        | (go_at_call 85; refine (HLf.out _ h1.out).mono ?_; clear HLf; rintro en w2 ⟨rfl, n2, hw2⟩; obtain rfl := hw2)
        | go_in)
      have hs1 : w.heap.size ≤ (w1.drewN n2).heap.size := hg1.out.size
      have hb1 : b < (w1.drewN n2).heap.size := Nat.lt_of_lt_of_le hbl hs1
      have HI0 : Hid (LI R 85 3 b w ((w1.drewN n2).alloc (.cells (madeCells #[.int .i64 0, .int .i64 0, .slice none 0 0] (c * 3)) 85)) (.slice (some ⟨w1.heap.size, 0, none⟩) 0 c) (fun _ => False) ([] : List Cd.Fun) []) := LI.start (w1 := w1.drewN n2) hs1 hb1 (by simp) (by simp [size_madeCells]) (by unfold maxLen; omega)
      have HP0 : Hid (PM ((w1.drewN n2).alloc (.cells (madeCells #[.int .i64 0, .int .i64 0, .slice none 0 0] (c * 3)) 85)) b s (p + sz)) := (Below.heap_alloc (w1.drewN n2) _ b hb1).trans h1.out
      have HG0 : Hid (w.grownBy ((w1.drewN n2).alloc (.cells (madeCells #[.int .i64 0, .int .i64 0, .slice none 0 0] (c * 3)) 85)) (some b)) := grown_alloc (grown_drewN hg1.out) _
      generalize (w1.drewN n2).alloc (.cells (madeCells #[.int .i64 0, .int .i64 0, .slice none 0 0] (c * 3)) 85) = W3 at HI0 HP0 HG0 ⊢
      generalize w1.heap.size = gg at HI0 ⊢
      clear hmk hs1 hb1 h1 hg1 hc hi hzz
      go_loopw [10, 32] (fun v t wr => ∃ (i q : Nat) (l : List Cd.Fun) (css : List (List Value)) (a : Option Addr) (cap : Nat) (D : Nat → Prop), t = .int .i64 i ∧ v = .slice a i cap ∧ i ≤ n + 1 ∧ l.length = i ∧ q ≤ s.length ∧ Hid (PM wr b s q) ∧ Hid (w.grownBy wr (some b)) ∧ Hid (LI R 85 3 b w wr (.slice a i cap) D l css) ∧ Hid (Cd.Rd.manyL g (n + 1) (Cd.Rd.at_ (p + sz)) = (l ++ (Cd.Rd.manyL g (n + 1 - i) (Cd.Rd.at_ q)).1, (Cd.Rd.manyL g (n + 1 - i) (Cd.Rd.at_ q)).2))) (fun _ t _ => n + 1 - (RowKit.intOf t).toNat)
      case atStart => exact ⟨0, p + sz, [], [], _, _, _, rfl, rfl, Nat.zero_le _, rfl, hle, HP0, HG0, HI0, by simp [Hid]⟩
      case round =>
        obtain ⟨i, q, l, css, a0, cap, D, rfl, rfl, hi, hll, hq, HP, HG, HI, HM⟩ := hrel
        by_cases hlt2 : i < n + 1
        · have hgl : (i : Int) < (n : Int) + 1 := by omega
          have HQ := hid (HE.out wr q HP.out hq)
          unfold EPost at HQ
          obtain ⟨k, hk⟩ : ∃ k, n + 1 - i = k + 1 := ⟨n - i, by omega⟩
          rw [hk] at HM
          rw [many_go g k (Cd.Rd.at_ q) rfl] at HM
          generalize g (Cd.Rd.at_ q) = xr at HQ HM
          obtain ⟨x, r⟩ := xr
          dsimp only at HQ HM
          by_cases hr : r.fk = 0
          · rw [errV_ok hr] at HQ
            go_wp2_with (first
              | (go_at_call 55; refine HQ.out.mono ?_; clear HQ; rintro en w4 ⟨cs, hsh, rfl, h4, hg4, hq4, hd4⟩
                 obtain ⟨a, c1, va, vn, vc, rfl⟩ := hsh
                 dsimp only [List.headD]
                 have hi4 := LI.each hR HI.out (grown_alloc hg4 (.cells #[Value.int .i64 a, Value.int .i64 c1, Value.slice va vn vc] 85))
                 have hrow4 := hi4.row
                 rw [hll] at hrow4
                 replace h4 := hid h4
                 replace hg4 := hid hg4
                 replace hd4 := hid hd4
                 replace hi4 := hid hi4
                 replace hrow4 := hid hrow4)
              | (at_builtin; refine list_append rfl _ _ 36 rfl 85 (.agg #[.int .i64 0, .int .i64 0, .slice none 0 0]) 3 40 Tryz.underlying36 Tryz.infoFun rfl (by decide) (.slice a0 i cap) i css.flatten rfl (hrow4.out.alloc _) ⟨w4.heap.size + 1, 0, none⟩ 1 1 [Value.int .i64 a, Value.int .i64 c1, Value.slice va vn vc] rfl rfl (fun j u hj => by have := new_cells (w4.alloc (.cells #[Value.int .i64 a, Value.int .i64 c1, Value.slice va vn vc] 85)) [Value.int .i64 a, Value.int .i64 c1, Value.slice va vn vc] 85 j u hj; rw [World.size_alloc] at this; exact this) (by simp [Value.oneCell']) (by unfold maxLen; omega) (by omega) ?_
                 intro v5 w5 hr5 hg5 hat5
                 have hr5b := hid hr5
                 obtain ⟨a5, cap5, rfl, _, _⟩ := row_slice hr5
                 replace hg5 := hid hg5
                 replace hat5 := hid hat5
                 clear hr5)
              | go_in)
            obtain ⟨hfa, D1, hRx, hDk⟩ := hd4.out hr
            have hrd := rd_ok hr hfa
            have hgs : w.heap.size ≤ wr.heap.size := HG.out.size
            have hg4s : wr.heap.size ≤ w4.heap.size := hg4.out.size
            have hRx2 : R x [Value.int .i64 a, Value.int .i64 c1, Value.slice va vn vc] (w4.alloc (.cells #[Value.int .i64 a, Value.int .i64 c1, Value.slice va vn vc] 85)) D1 := (hR.2 _ _ _ _ _ _ hRx (fun k hk => Below.heap_alloc w4 _ k (hDk k hk).2.1) (fun _ h => h))
            have HI5 := LI.push hR hi4.out (by have := h4.out.lt; simp; omega) hRx2 (fun k hk => by
              obtain ⟨b1, b2, b3⟩ := hDk k hk
              refine ⟨by simp; omega, b3, by omega, fun e => ?_⟩
              have := ownsRow_lt HI.out.row e
              omega) (by simp; omega) (by rw [hll]; exact hr5b.out) hg5.out hat5.out
            obtain ⟨hb5, hg5b⟩ := LI.after hi4.out hg5.out (by have := h4.out.lt; simp; omega) (grown_trans HG.out (grown_alloc hg4.out _))
            go_roundw
            case rel =>
              refine ⟨i + 1, r.pos, l ++ [x], css ++ [[Value.int .i64 a, Value.int .i64 c1, Value.slice va vn vc]], a5, cap5, (fun k => D k ∨ D1 k), by simp, rfl, by omega, by simp [hll], hq4, hb5.trans ((Below.heap_alloc w4 _ b h4.out.lt).trans h4.out), hg5b, HI5, ?_⟩
              rw [Hid, HM.out, show n + 1 - (i + 1) = k by omega, ← hrd]
              simp
            case measure => simp [RowKit.intOf]; omega
          · rw [errV_no hr] at HQ
            rw [many_stop g k r hr] at HM
            have HMo := hid (congrArg Prod.snd HM.out)
            dsimp only at HMo
            go_wp2_with (first
              | (go_at_call 55; refine HQ.out.mono ?_; clear HQ; rintro en w4 ⟨cs, hsh, rfl, h4, hg4, hq4, hd4⟩
                 obtain ⟨a, c1, va, vn, vc, rfl⟩ := hsh
                 dsimp only [List.headD]
                 replace h4 := hid h4
                 replace hg4 := hid hg4
                 clear hd4)
              | go_in)
            refine bodyPost_ret (v := .tuple #[.slice none 0 0, .iface 78 (.agg #[.int .i64 r.fk, .int .i64 r.fa])]) (by simp [results, Tryz.results54, go_sem]) rfl ⟨none, 0, 0, ?_, ?_, grown_alloc (grown_trans HG.out hg4.out) _, ?_, fun h => absurd h ?_⟩
            · rw [HMo.out, errV_no hr]
            · rw [HMo.out]; exact (Below.heap_alloc w4 _ b h4.out.lt).trans h4.out
            · rw [HMo.out]; exact hq4
            · rw [HMo.out]; exact hr
        · have ei : i = n + 1 := by omega
          subst ei
          have hgl : ¬ (((n : Int) + 1) < (n : Int) + 1) := by omega
          have HMf : Hid (Cd.Rd.manyL g (n + 1) (Cd.Rd.at_ (p + sz)) = (l, Cd.Rd.at_ q)) := by
            rw [Hid, HM.out]
            simp [Cd.Rd.manyL]
          obtain ⟨D', hd1, hd2⟩ := LI.done hR HI.out
          replace hd1 := hid hd1
          replace hd2 := hid hd2
          go_wp2
          rw [HMf.out]
          refine bodyPost_ret (v := .tuple #[.slice a0 (n + 1) cap, .nilIface]) (by simp [results, Tryz.results54, go_sem]) rfl ⟨a0, n + 1, cap, rfl, HP.out, HG.out, hq, fun _ => ⟨rfl, D', hd1.out, fun k hk => ⟨(hd2.out k hk).2.2, (hd2.out k hk).1, (hd2.out k hk).2.1⟩⟩⟩
  · have hb := hbd hr
    simp only [Prod.mk.injEq] at hb
    obtain ⟨rfl, rfl⟩ := hb
    rw [errV_no hr] at HN
    have HP : Hid (Cd.Rd.manyL g 0 ⟨p, 13, s.length⟩ = ([], ⟨p, 13, s.length⟩)) := rfl
    clear hok hbd hr
    go_enter Tryz.func54, Tryz.ntmps54
    go_wp2_with (first
      | (go_at_call 83; refine HN.out.mono ?_; clear HN; rintro en w1 ⟨rfl, h1, hg1⟩
         replace h1 := hid h1
         replace hg1 := hid hg1)
      | go_in)
    rw [HP.out]
    exact bodyPost_ret (v := .tuple #[.slice none 0 0, .iface 78 (.agg #[.int .i64 13, .int .i64 s.length])]) (by simp [results, Tryz.results54, go_sem]) rfl ⟨none, 0, 0, by rw [errV_no (by simp)]; rfl, h1.out, hg1.out, hp, fun h => by simp at h⟩
end Go.Proofs.YtpjbfdpblgjmfaaGreatDoor
