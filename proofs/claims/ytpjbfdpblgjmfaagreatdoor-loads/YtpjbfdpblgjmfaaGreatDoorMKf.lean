/-
  The program's checker: step.
  The program's checker: flow.
-/
import Derived.Test.YtpjbfdpblgjmfaaGreatDoorMKd
set_option linter.unusedVariables false
set_option linter.unusedSimpArgs false
namespace Go.Proofs.YtpjbfdpblgjmfaaGreatDoor
open Go.RowKit Go.Maps

theorem KR.kB {C : Cd.Code} {f : Cd.Fun} {vb vc vd v : Value} {kB fn g n : Nat} {kn : Value} {K : Cd.Kn} {w : World} (hK : Kk C f vb vc vd v kB fn kn w) (hR : KR w g n K) : g ≠ kB := by
  intro e
  obtain ⟨c, h1, h2, _⟩ := hR
  have h3 := hK.hk
  rw [← e, h1] at h3
  simp at h3
theorem Kk.grown {C : Cd.Code} {f : Cd.Fun} {vb vc vd v : Value} {kB fn g : Nat} {kn : Value} {w0 w w' : World} (h : Kk C f vb vc vd v kB fn kn w) (hg : w.grownBy w' (some g)) (hk : g ≠ kB) (hc : CodeM w0 vb vc vd C) (hi : InssM w0 v f.ins) (hb : Below w0.heap.size w0 w) (hw : w0.heap.size ≤ g) : Kk C f vb vc vd v kB fn kn w' ∧ Below w0.heap.size w0 w' := by
  have hb2 : Below w0.heap.size w0 w' := below_grow hb hg hw
  exact ⟨⟨hc.keep hb2, hi.keep hb2, (hg.block kB h.lt (by simp; omega)).trans h.hk, h.hf⟩, hb2⟩

set_option maxRecDepth 100000 in
set_option maxHeartbeats 8000000 in
theorem step_c (C : Cd.Code) (f : Cd.Fun) (vb vc vd v : Value) (kB fn g i : Nat) (x : Cd.Ins) (K : Cd.Kn) (w0 w : World) (hK : Kk C f vb vc vd v kB fn (knV g f.ins.length) w) (hR : KR w g f.ins.length K) (hx : f.ins[i]? = some x) (hS : Cd.Small C) (hmem : f ∈ C.funs)
    (hv : ∀ b m, K b = some m → 0 ≤ m ∧ m ≤ 4000) (hop : Cd.fits x.op 22 = true) (h13 : x.op = 13 → 0 ≤ x.a ∧ x.a < C.funs.length) (h21 : x.op = 21 → 0 ≤ x.a ∧ x.a < C.hans.length) (hj : x.op = 18 ∨ x.op = 19 → 0 ≤ x.a ∧ x.a < f.ins.length)
    (hc0 : CodeM w0 vb vc vd C) (hi0 : InssM w0 v f.ins) (hb0 : Below w0.heap.size w0 w) (hw0 : w0.heap.size ≤ g) :
    Calls Tryz.prog 96 #[.pointer (some ⟨kB, 0, none⟩), .int .i64 i] w (LnPost w g f.ins.length (Cd.stepP C x i K)) := by
  have hil : i < f.ins.length := (List.getElem?_eq_some_iff.1 hx).1
  have hn := hS.ins f hmem
  have hgk := KR.kB hK hR
  have hkB := hK.lt
  have hgl := hR.lt
  obtain ⟨_, c4, c5, c6, _⟩ := hK.cells
  obtain ⟨ai, ci, rfl, hci, hcell⟩ := hK.im
  obtain ⟨gi, ki, rfl, hcell2⟩ := hcell (fun e => by rw [e] at hil; simp at hil)
  obtain ⟨q0, q1, q2, q3⟩ := hcell2 i x hx
  have hgi : gi < w.heap.size := block_lt_of_cell q0
  have r0 : w.cell? ⟨g, i, none⟩ = some (.int .i64 (encK (K i))) := World.rowIs.cell hR (by omega : i < f.ins.length + 1)
  unfold knV at c6
  have hal : (i : Int) < (f.ins.length : Int) + 1 := by omega
  have hal2 : (i : Int) < (f.ins.length : Int) := by omega
  have htk := Cd.takes_small hS h13 h21
  have hput := Cd.puts_eq (C := C) hop
  have HT := hid (fun (W : World) (h : Below w.heap.size w W) => takes_c C f vb vc vd _ kB fn _ x W (hK.keep h) hop h13 h21 hS.ops)
  unfold insV2 TakPost at HT
  have HK := hid hK
  have HR := hid hR
  have HV := hid hv
  have HJ := hid hj
  have HPt := hid hput
  have hbA : Hid (Below w.heap.size w (w.alloc (.cells #[.int .i64 x.op, .int .i64 x.a, .int .i64 x.b, .int .i64 x.n] 123)).drew) := ((Below.refl _ _).alloc (Nat.le_refl _) _).drew
  clear hcell2 hK hR hv hj hput hop h13 h21 c4
  go_enter Tryz.func96, Tryz.ntmps96
  go_upto_region 1 with fail
  refine wp_region_held_drew (S := (fun w' => w'.cell? ⟨kB, 5, none⟩ = some (.slice (some ⟨gi, ki, none⟩) f.ins.length ci) ∧ w'.cell? ⟨kB, 6, none⟩ = some (.slice (some ⟨g, 0, none⟩) (f.ins.length + 1) (f.ins.length + 1)) ∧ w'.cell? ⟨gi, ki + i * 4, none⟩ = some (.int .i64 x.op) ∧ w'.cell? ⟨gi, ki + i * 4 + 1, none⟩ = some (.int .i64 x.a) ∧ w'.cell? ⟨gi, ki + i * 4 + 2, none⟩ = some (.int .i64 x.b) ∧ w'.cell? ⟨gi, ki + i * 4 + 3, none⟩ = some (.int .i64 x.n) ∧ w'.cell? ⟨g, i, none⟩ = some (.int .i64 (encK (K i))))) (by kernel_rfl) (by first | trivial | ((try dsimp only); go_keep)) (fun hHeld => ?_)
  refine wpAnyH_take (i := 0) (v := ?vvs1) rfl (by kernel_rfl) (by kernel_rfl) (by kernel_rfl) (fun _ _ _ h => h) (Or.inl ⟨by rfl, ?yys1⟩) (by assumption) ?rrs1
  case yys1 => (intro w' hSw; (try dsimp only at hSw); go_simp; (try with_reducible rfl))
  try simp only [Act.put, List.setIfInBounds_toArray, List.set_cons_zero, List.set_cons_succ]
  refine wpAnyH_take (i := 1) (v := ?vvs2) rfl (by kernel_rfl) (by kernel_rfl) (by kernel_rfl) (fun _ _ _ h => h) (Or.inl ⟨by rfl, ?yys2⟩) (by assumption) ?rrs2
  case yys2 => (intro w' hSw; (try dsimp only at hSw); go_simp; (try with_reducible rfl))
  try simp only [Act.put, List.setIfInBounds_toArray, List.set_cons_zero, List.set_cons_succ]
  refine wpAnyH_take (i := 2) (v := ?vvs3) rfl (by kernel_rfl) (by kernel_rfl) (by kernel_rfl) (fun _ _ _ h => h) (Or.inl ⟨by rfl, ?yys3⟩) (by assumption) ?rrs3
  case yys3 => (intro w' hSw; (try dsimp only at hSw); go_simp; (try with_reducible rfl))
  try simp only [Act.put, List.setIfInBounds_toArray, List.set_cons_zero, List.set_cons_succ]
  refine wpAnyH_take (i := 3) (v := ?vvs4) rfl (by kernel_rfl) (by kernel_rfl) (by kernel_rfl) (fun _ _ _ h => h) (Or.inl ⟨by rfl, ?yys4⟩) (by assumption) ?rrs4
  case yys4 => (intro w' hSw; (try dsimp only at hSw); go_simp; (try with_reducible rfl))
  try simp only [Act.put, List.setIfInBounds_toArray, List.set_cons_zero, List.set_cons_succ]
  refine wpAnyH_take (i := 4) (v := ?vvs5) rfl (by kernel_rfl) (by kernel_rfl) (by kernel_rfl) (fun _ _ _ h => h) (Or.inl ⟨by rfl, ?yys5⟩) (by assumption) ?rrs5
  case yys5 => (intro w' hSw; (try dsimp only at hSw); go_simp; (try with_reducible rfl))
  try simp only [Act.put, List.setIfInBounds_toArray, List.set_cons_zero, List.set_cons_succ]
  refine wpAnyH_take (i := 5) (v := ?vvs6) rfl (by kernel_rfl) (by kernel_rfl) (by kernel_rfl) (fun _ _ _ h => h) (Or.inl ⟨by rfl, ?yys6⟩) (by assumption) ?rrs6
  case yys6 => (intro w' hSw; (try dsimp only at hSw); go_simp; (try with_reducible rfl))
  try simp only [Act.put, List.setIfInBounds_toArray, List.set_cons_zero, List.set_cons_succ]
  refine wpAnyH_take (i := 6) (v := ?vvs7) rfl (by kernel_rfl) (by kernel_rfl) (by kernel_rfl) (fun _ _ _ h => h) (Or.inl ⟨by rfl, ?yys7⟩) (by assumption) ?rrs7
  case yys7 => (intro w' hSw; (try dsimp only at hSw); go_simp; (try with_reducible rfl))
  try simp only [Act.put, List.setIfInBounds_toArray, List.set_cons_zero, List.set_cons_succ]
  refine wpAnyH_take (i := 7) (v := ?vvs8) rfl (by kernel_rfl) (by kernel_rfl) (by kernel_rfl) (fun _ _ _ h => h) (Or.inl ⟨by rfl, ?yys8⟩) (by assumption) ?rrs8
  case yys8 => (intro w' hSw; (try dsimp only at hSw); go_simp; (try with_reducible rfl))
  try simp only [Act.put, List.setIfInBounds_toArray, List.set_cons_zero, List.set_cons_succ]
  refine wpAnyH_take (i := 8) (v := ?vvs9) rfl (by kernel_rfl) (by kernel_rfl) (by kernel_rfl) (fun _ _ _ h => h) (Or.inl ⟨by rfl, ?yys9⟩) (by assumption) ?rrs9
  case yys9 => (intro w' hSw; (try dsimp only at hSw); go_simp; (try with_reducible rfl))
  try simp only [Act.put, List.setIfInBounds_toArray, List.set_cons_zero, List.set_cons_succ]
  refine wpAnyH_take (i := 9) (v := ?vvs10) rfl (by kernel_rfl) (by kernel_rfl) (by kernel_rfl) (fun _ _ _ h => h) (Or.inl ⟨by rfl, ?yys10⟩) (by assumption) ?rrs10
  case yys10 => (intro w' hSw; (try dsimp only at hSw); go_simp; (try with_reducible rfl))
  try simp only [Act.put, List.setIfInBounds_toArray, List.set_cons_zero, List.set_cons_succ]
  refine wpAnyH_take (i := 10) (v := ?vvs11) rfl (by kernel_rfl) (by kernel_rfl) (by kernel_rfl) (fun _ _ _ h => h) (Or.inl ⟨by rfl, ?yys11⟩) (by assumption) ?rrs11
  case yys11 => (intro w' hSw; (try dsimp only at hSw); go_simp; (try with_reducible rfl))
  try simp only [Act.put, List.setIfInBounds_toArray, List.set_cons_zero, List.set_cons_succ]
  refine wpAnyH_take (i := 11) (v := ?vvs12) rfl (by kernel_rfl) (by kernel_rfl) (by kernel_rfl) (fun _ _ _ h => h) (Or.inl ⟨by rfl, ?yys12⟩) (by assumption) ?rrs12
  case yys12 => (intro w' hSw; (try dsimp only at hSw); go_simp; (try with_reducible rfl))
  try simp only [Act.put, List.setIfInBounds_toArray, List.set_cons_zero, List.set_cons_succ]
  refine wpAnyH_take (i := 12) (v := ?vvs13) rfl (by kernel_rfl) (by kernel_rfl) (by kernel_rfl) (fun _ _ _ h => h) (Or.inl ⟨by rfl, ?yys13⟩) (by assumption) ?rrs13
  case yys13 => (intro w' hSw; (try dsimp only at hSw); go_simp; (try with_reducible rfl))
  try simp only [Act.put, List.setIfInBounds_toArray, List.set_cons_zero, List.set_cons_succ]
  refine wpAnyH_take (i := 13) (v := ?vvs14) rfl (by kernel_rfl) (by kernel_rfl) (by kernel_rfl) (fun _ _ _ h => h) (Or.inl ⟨by rfl, ?yys14⟩) (by assumption) ?rrs14
  case yys14 => (intro w' hSw; (try dsimp only at hSw); go_simp; (try with_reducible rfl))
  try simp only [Act.put, List.setIfInBounds_toArray, List.set_cons_zero, List.set_cons_succ]
  refine wpAnyH_ready (rs := [14]) (by kernel_rfl) (by simp) (AllReadyH.cons rfl (fun K hK => ?_) AllReadyH.nil)
  go_simp
  skip
  clear hHeld
  refine hK.out _ _ ?hs (fun hHeld => ?_)
  case hs => (first | trivial | ((try dsimp only); go_keep) | ((try dsimp only); simp [*, World.cell?_alloc_some, World.cell?_setCell_far, World.cell?_setCell_other]))
  clear hK K
  try simp only [Act.put, List.setIfInBounds_toArray, List.set_cons_zero, List.set_cons_succ]
  refine wpAnyH_ready (rs := [15]) (by kernel_rfl) (by simp) (AllReadyH.cons rfl (fun K hK => ?_) AllReadyH.nil)
  go_simp
  skip
  clear hHeld
  refine hK.out _ _ ?hs (fun hHeld => ?_)
  case hs => (first | trivial | ((try dsimp only); go_keep) | ((try dsimp only); simp [*, World.cell?_alloc_some, World.cell?_setCell_far, World.cell?_setCell_other]))
  clear hK K
  try simp only [Act.put, List.setIfInBounds_toArray, List.set_cons_zero, List.set_cons_succ]
  refine wpAnyH_take (i := 16) (v := ?vvs15) rfl (by kernel_rfl) (by kernel_rfl) (by kernel_rfl) (fun _ _ _ h => h) (Or.inl ⟨by rfl, ?yys15⟩) (by assumption) ?rrs15
  case yys15 => (intro w' hSw; (try dsimp only at hSw); go_simp; (try with_reducible rfl))
  try simp only [Act.put, List.setIfInBounds_toArray, List.set_cons_zero, List.set_cons_succ]
  refine wpAnyH_done (by kernel_rfl) ?_ _
  clear hHeld
  have x0 : ((w.alloc (.cells #[.int .i64 x.op, .int .i64 x.a, .int .i64 x.b, .int .i64 x.n] 123)).drew).cell? ⟨w.heap.size, 0, none⟩ = some (.int .i64 x.op) := by simp
  have x1 : ((w.alloc (.cells #[.int .i64 x.op, .int .i64 x.a, .int .i64 x.b, .int .i64 x.n] 123)).drew).cell? ⟨w.heap.size, 1, none⟩ = some (.int .i64 x.a) := by simp
  have HG2 := hid (fun (W : World) (h : Below w.heap.size w W) => (below_grown (o := some g) h))
  cases hKi : K i with
  | none =>
    have HP : Hid (Cd.stepP C x i K = none) := by simp [Hid, Cd.stepP, hKi]
    have hen : encK (none : Option Int) = -1 := rfl
    rw [hKi, hen] at r0
    try rw [hKi, hen]
    go_wp2_with (first
        | (go_at_call 105; refine (HT.out _ hbA.out).mono ?_; clear HT; rintro en w2 ⟨rfl, hb2⟩
           have hbw := hid (below_trans hbA.out hb2)
           have y0 := kc hb2 x0
           have y1 := kc hb2 x1
           clear hb2 x0 x1)
        | go_in)
    go_ret
    rw [HP.out]
    exact ⟨HG2.out _ hbw.out, rfl⟩
  | some h =>
    have hen : encK (some h) = h := rfl
    try rw [hKi]
    rw [hen]
    obtain ⟨hh0, hh1⟩ := HV.out _ _ hKi
    have hm1 : (h == -1) = false := by simp; omega
    obtain ⟨⟨ht0, ht1⟩, hp0, hp1⟩ := htk
    have HSt : Hid (Cd.stepP C x i K = if (Cd.takes C x).1 > h ∨ ((x.op = 17 ∨ x.op = 16) ∧ (Cd.takes C x).1 ≠ h) then none else if h - (Cd.takes C x).1 + (Cd.takes C x).2 > 4000 then none else Cd.flowP (h - (Cd.takes C x).1 + (Cd.takes C x).2) (Cd.goes x i) K) := by simp only [Hid, Cd.stepP, hKi]
    generalize (Cd.takes C x).1 = tk at *
    generalize (Cd.takes C x).2 = pt at *
    clear r0 hKi
    by_cases hlt : h < tk
    · have HP : Hid (Cd.stepP C x i K = none) := by rw [Hid, HSt.out, if_pos (.inl hlt)]
      go_wp2_with (first
        | (go_at_call 105; refine (HT.out _ hbA.out).mono ?_; clear HT; rintro en w2 ⟨rfl, hb2⟩
           have hbw := hid (below_trans hbA.out hb2)
           have y0 := kc hb2 x0
           have y1 := kc hb2 x1
           clear hb2 x0 x1)
        | go_in)
      go_ret
      rw [HP.out]
      exact ⟨HG2.out _ hbw.out, rfl⟩
    · have hw1 : IntKind.i64.wrap (h - tk) = h - tk := by rw [IntKind.wrap_i64]; omega
      have hw2 : IntKind.i64.wrap (h - tk + pt) = h - tk + pt := by rw [IntKind.wrap_i64]; omega
      have HLn := hid (fun (W : World) (hk : Kk C f vb vc vd (.slice (some ⟨gi, ki, none⟩) f.ins.length ci) kB fn (knV g f.ins.length) W) K2 (hr : KR W g f.ins.length K2) a ha hv2 => learn_c C f vb vc vd _ kB fn g f.ins.length K2 a (h - tk + pt) W hk hr ha hn (by omega) hv2)
      have hvn : ∀ b m, K b = some m → 0 ≤ m := fun b m hb => (HV.out b m hb).1
      have hi1 : IntKind.i64.wrap ((i : Int) + 1) = i + 1 := by rw [IntKind.wrap_i64]; omega
      clear hen hm1
      have hm1 : (h == -1) = false := by simp; omega
      by_cases hE : x.op = 17 ∨ x.op = 16
      · have hEn : decide (x.op = 17 ∨ x.op = 16) = true := by simpa using hE
        have hJu : decide (x.op = 18 ∨ x.op = 19) = false := by simp; omega
        have HEh := hid hE
        have hgo : Hid (Cd.goes x i = []) := by
          rw [Hid]
          unfold Cd.goes
          rw [if_neg (by omega), if_neg (by omega)]
          rfl
        by_cases hgt : tk < h
        · have HP : Hid (Cd.stepP C x i K = none) := by rw [Hid, HSt.out, if_pos (.inr ⟨HEh.out, by omega⟩)]
          clear hE
          go_wp2_with (first
            | (go_at_call 105; refine (HT.out _ hbA.out).mono ?_; clear HT; rintro en w2 ⟨rfl, hb2⟩
               have hbw := hid (below_trans hbA.out hb2)
               have y0 := kc hb2 x0
               have y1 := kc hb2 x1
               have hk2 := hid (HK.out.keep hbw.out)
               have hr2 := hid (HR.out.keep (hbw.out.block g hgl))
               clear hb2 x0 x1)
            | (go_at_call 106; refine (ends_c _ _).mono ?_; rintro en w9 ⟨rfl, hw9⟩; obtain rfl := hw9.symm; rw [hEn])
            | go_in)
          go_ret
          rw [HP.out]
          exact ⟨HG2.out _ hbw.out, rfl⟩
        · have hpt : pt = 0 := by rw [HPt.out, if_pos (by omega)]
          have hng : ¬ (4000 : Int) < h - tk + pt := by omega
          have HP : Hid (Cd.stepP C x i K = some K) := by
            rw [Hid, HSt.out, if_neg (by omega), if_neg (by omega), hgo.out]
            rfl
          replace hpt := hid hpt
          clear hE
          go_wp2_with (first
            | (go_at_call 105; refine (HT.out _ hbA.out).mono ?_; clear HT; rintro en w2 ⟨rfl, hb2⟩
               have hbw := hid (below_trans hbA.out hb2)
               have y0 := kc hb2 x0
               have y1 := kc hb2 x1
               have hk2 := hid (HK.out.keep hbw.out)
               have hr2 := hid (HR.out.keep (hbw.out.block g hgl))
               clear hb2 x0 x1)
            | (go_at_call 106; refine (ends_c _ _).mono ?_; rintro en w9 ⟨rfl, hw9⟩; obtain rfl := hw9.symm; rw [hEn])
            | (go_at_call 108; refine (jumps_c _ _).mono ?_; rintro en w9 ⟨rfl, hw9⟩; obtain rfl := hw9.symm; rw [hJu])
            | (go_at_call 107; refine (puts_c _ _).mono ?_; rintro en w9 ⟨rfl, hw9⟩; obtain rfl := hw9.symm; rw [← HPt.out])
            | go_in)
          go_ret
          rw [HP.out]
          exact ⟨HG2.out _ hbw.out, rfl, hr2.out⟩
      · have hEn : decide (x.op = 17 ∨ x.op = 16) = false := by simpa using hE
        have HEh := hid hE
        by_cases hbig : (4000 : Int) < h - tk + pt
        · have HP : Hid (Cd.stepP C x i K = none) := by rw [Hid, HSt.out, if_neg (by omega), if_pos hbig]
          clear hE
          go_wp2_with (first
            | (go_at_call 105; refine (HT.out _ hbA.out).mono ?_; clear HT; rintro en w2 ⟨rfl, hb2⟩
               have hbw := hid (below_trans hbA.out hb2)
               have y0 := kc hb2 x0
               have y1 := kc hb2 x1
               have hk2 := hid (HK.out.keep hbw.out)
               have hr2 := hid (HR.out.keep (hbw.out.block g hgl))
               clear hb2 x0 x1)
            | (go_at_call 106; refine (ends_c _ _).mono ?_; rintro en w9 ⟨rfl, hw9⟩; obtain rfl := hw9.symm; rw [hEn])
            | (go_at_call 107; refine (puts_c _ _).mono ?_; rintro en w9 ⟨rfl, hw9⟩; obtain rfl := hw9.symm; rw [← HPt.out])
            | go_in)
          go_ret
          rw [HP.out]
          exact ⟨HG2.out _ hbw.out, rfl⟩
        · have HP0 : Hid (Cd.stepP C x i K = Cd.flowP (h - tk + pt) (Cd.goes x i) K) := by rw [Hid, HSt.out, if_neg (by omega), if_neg (by omega)]
          by_cases hJ : x.op = 18 ∨ x.op = 19
          · have hJu : decide (x.op = 18 ∨ x.op = 19) = true := by simpa using hJ
            obtain ⟨ha0, ha1⟩ := HJ.out hJ
            obtain ⟨an, han⟩ := Int.eq_ofNat_of_zero_le ha0
            rw [han] at ha1
            have hgo : Hid (Cd.goes x i = (an : Int) :: (if x.op = 18 then [] else [(i : Int) + 1])) := by
              rw [Hid]
              unfold Cd.goes
              rw [if_pos hJ, han]
              by_cases e : x.op = 18
              · rw [if_neg (by omega), if_pos e]; rfl
              · rw [if_pos (by omega), if_neg e]; rfl
            replace han := hid han
            have QL := fun (W : World) hk hr => HLn.out W hk K hr an (by omega) hvn
            cases hR1 : Cd.flowP (h - tk + pt) [(an : Int)] K with
            | none =>
              have HP : Hid (Cd.stepP C x i K = none) := by
                rw [Hid, HP0.out, hgo.out]
                unfold Cd.flowP at hR1 ⊢
                cases hKa : K an with
                | none => rw [hKa] at hR1; simp [Cd.flowP] at hR1
                | some m =>
                  rw [hKa] at hR1
                  simp only at hR1 ⊢
                  by_cases e : m = h - tk + pt
                  · rw [if_pos e] at hR1; simp [Cd.flowP] at hR1
                  · rw [if_neg e]
              rw [hR1] at QL
              clear hE hJ hR1
              go_wp2_with (first
                | (go_at_call 105; refine (HT.out _ hbA.out).mono ?_; clear HT; rintro en w2 ⟨rfl, hb2⟩
                   have hbw := hid (below_trans hbA.out hb2)
                   have y0 := kc hb2 x0
                   have y1 := (kc hb2 x1).trans (show some (Value.int .i64 x.a) = some (.int .i64 (an : Int)) by rw [han.out])
                   have hk2 := hid (HK.out.keep hbw.out)
                   have hr2 := hid (HR.out.keep (hbw.out.block g hgl))
                   clear hb2 x0 x1)
                | (go_at_call 106; refine (ends_c _ _).mono ?_; rintro en w9 ⟨rfl, hw9⟩; obtain rfl := hw9.symm; rw [hEn])
                | (go_at_call 108; refine (jumps_c _ _).mono ?_; rintro en w9 ⟨rfl, hw9⟩; obtain rfl := hw9.symm; rw [hJu])
                | (go_at_call 107; refine (puts_c _ _).mono ?_; rintro en w9 ⟨rfl, hw9⟩; obtain rfl := hw9.symm; rw [← HPt.out])
                | (go_at_call 109; refine (QL _ hk2.out hr2.out).mono ?_; clear QL; rintro en w3 ⟨hg3, hres3⟩
                   obtain rfl := hres3
                   have z0 := hg3.cell y0 (by simp; omega)
                   replace hg3 := hid hg3)
                | go_in)
              go_ret
              rw [HP.out]
              exact ⟨grown_trans (HG2.out _ hbw.out) hg3.out, rfl⟩
            | some K1 =>
              have hK1 : K1 = K.put an (h - tk + pt) := by
                unfold Cd.flowP at hR1
                cases hKa : K an with
                | none => rw [hKa] at hR1; simp [Cd.flowP] at hR1; exact hR1.symm
                | some m =>
                  rw [hKa] at hR1
                  simp only at hR1
                  by_cases e : m = h - tk + pt
                  · rw [if_pos e] at hR1; simp [Cd.flowP] at hR1; exact hR1.symm
                  · rw [if_neg e] at hR1; cases hR1
              have hfl : Hid (∀ l, Cd.flowP (h - tk + pt) ((an : Int) :: l) K = Cd.flowP (h - tk + pt) l K1) := by
                intro l
                rw [hK1]
                rw [Cd.flowP]
                unfold Cd.flowP at hR1
                cases hKa : K an with
                | none => rfl
                | some m =>
                  rw [hKa] at hR1
                  simp only at hR1 ⊢
                  by_cases e : m = h - tk + pt
                  · rw [if_pos e]
                  · rw [if_neg e] at hR1; cases hR1
              have hv1 : ∀ b m, K1 b = some m → 0 ≤ m := fun b m hb => by
                rcases Cd.flowP_vals [(an : Int)] K K1 hR1 b m hb with e | e
                · rw [e]; omega
                · exact hvn b m e
              rw [hR1] at QL
              have HK1 := hid hK1
              clear hR1 hK1
              by_cases h18 : x.op = 18
              · have HP : Hid (Cd.stepP C x i K = some K1) := by
                  rw [Hid, HP0.out, hgo.out, if_pos h18, hfl.out]
                  rfl
                have H18 := hid h18
                have hpt0 : pt = 0 := by rw [HPt.out, if_pos (by omega)]
                have hbig2 : ¬ (4000 : Int) < h - tk := by omega
                rw [hpt0, Int.add_zero] at QL
                replace hpt0 := hid hpt0
                clear hE hJ HSt HP0 hgo h18 hEn hJu
                go_wp2_with (first
                  | (go_at_call 105; refine (HT.out _ hbA.out).mono ?_; clear HT; rintro en w2 ⟨rfl, hb2⟩
                     have hbw := hid (below_trans hbA.out hb2)
                     have y0 := (kc hb2 x0).trans (show some (Value.int .i64 x.op) = some (.int .i64 18) by rw [H18.out])
                     have y1 := (kc hb2 x1).trans (show some (Value.int .i64 x.a) = some (.int .i64 (an : Int)) by rw [han.out])
                     have hk2 := hid (HK.out.keep hbw.out)
                     have hr2 := hid (HR.out.keep (hbw.out.block g hgl))
                     clear hb2 x0 x1)
                  | (go_at_call 109; refine (QL _ hk2.out hr2.out).mono ?_; clear QL; rintro en w3 ⟨hg3, hres3⟩
                     obtain ⟨rfl, hr3⟩ := hres3
                     have z0 := hg3.cell y0 (by simp; omega)
                     have hk3 := hid (Kk.grown hk2.out hg3 hgk hc0 hi0 (below_trans hb0 hbw.out) hw0).1
                     replace hr3 := hid hr3
                     replace hg3 := hid hg3)
                  | go_in)
                go_ret
                rw [HP.out]
                exact ⟨grown_trans (HG2.out _ hbw.out) hg3.out, rfl, hr3.out⟩
              · have hb18 : (x.op == 18) = false := by simpa using h18
                have hP1 : Hid (Cd.stepP C x i K = Cd.flowP (h - tk + pt) [(i : Int) + 1] K1) := by rw [Hid, HP0.out, hgo.out, if_neg h18, hfl.out]
                have QM := fun (W : World) hk hr => HLn.out W hk K1 hr (i + 1) (by omega) hv1
                rw [show (((i + 1 : Nat) : Int)) = (i : Int) + 1 by omega] at QM
                clear hE hJ h18
                cases hR2 : Cd.flowP (h - tk + pt) [(i : Int) + 1] K1 with
                | none =>
                  rw [hR2] at QM hP1
                  go_wp2_with (first
                    | (go_at_call 105; refine (HT.out _ hbA.out).mono ?_; clear HT; rintro en w2 ⟨rfl, hb2⟩
                       have hbw := hid (below_trans hbA.out hb2)
                       have y0 := kc hb2 x0
                       have y1 := (kc hb2 x1).trans (show some (Value.int .i64 x.a) = some (.int .i64 (an : Int)) by rw [han.out])
                       have hk2 := hid (HK.out.keep hbw.out)
                       have hr2 := hid (HR.out.keep (hbw.out.block g hgl))
                       clear hb2 x0 x1)
                    | (go_at_call 106; refine (ends_c _ _).mono ?_; rintro en w9 ⟨rfl, hw9⟩; obtain rfl := hw9.symm; rw [hEn])
                    | (go_at_call 108; refine (jumps_c _ _).mono ?_; rintro en w9 ⟨rfl, hw9⟩; obtain rfl := hw9.symm; rw [hJu])
                    | (go_at_call 107; refine (puts_c _ _).mono ?_; rintro en w9 ⟨rfl, hw9⟩; obtain rfl := hw9.symm; rw [← HPt.out])
                    | (go_at_call 109; refine (QL _ hk2.out hr2.out).mono ?_; clear QL; rintro en w3 ⟨hg3, hres3⟩
                       obtain ⟨rfl, hr3⟩ := hres3
                       have z0 := hg3.cell y0 (by simp; omega)
                       have hk3 := hid (Kk.grown hk2.out hg3 hgk hc0 hi0 (below_trans hb0 hbw.out) hw0).1
                       replace hr3 := hid hr3
                       replace hg3 := hid hg3)
                    | (go_at_call 109; refine (QM _ hk3.out hr3.out).mono ?_; clear QM; rintro en w4 ⟨hg4, hres4⟩
                       obtain rfl := hres4
                       replace hg4 := hid hg4)
                    | go_in)
                  go_ret
                  rw [hP1.out]
                  exact ⟨grown_trans (grown_trans (HG2.out _ hbw.out) hg3.out) hg4.out, rfl⟩
                | some K2 =>
                  rw [hR2] at QM hP1
                  go_wp2_with (first
                    | (go_at_call 105; refine (HT.out _ hbA.out).mono ?_; clear HT; rintro en w2 ⟨rfl, hb2⟩
                       have hbw := hid (below_trans hbA.out hb2)
                       have y0 := kc hb2 x0
                       have y1 := (kc hb2 x1).trans (show some (Value.int .i64 x.a) = some (.int .i64 (an : Int)) by rw [han.out])
                       have hk2 := hid (HK.out.keep hbw.out)
                       have hr2 := hid (HR.out.keep (hbw.out.block g hgl))
                       clear hb2 x0 x1)
                    | (go_at_call 106; refine (ends_c _ _).mono ?_; rintro en w9 ⟨rfl, hw9⟩; obtain rfl := hw9.symm; rw [hEn])
                    | (go_at_call 108; refine (jumps_c _ _).mono ?_; rintro en w9 ⟨rfl, hw9⟩; obtain rfl := hw9.symm; rw [hJu])
                    | (go_at_call 107; refine (puts_c _ _).mono ?_; rintro en w9 ⟨rfl, hw9⟩; obtain rfl := hw9.symm; rw [← HPt.out])
                    | (go_at_call 109; refine (QL _ hk2.out hr2.out).mono ?_; clear QL; rintro en w3 ⟨hg3, hres3⟩
                       obtain ⟨rfl, hr3⟩ := hres3
                       have z0 := hg3.cell y0 (by simp; omega)
                       have hk3 := hid (Kk.grown hk2.out hg3 hgk hc0 hi0 (below_trans hb0 hbw.out) hw0).1
                       replace hr3 := hid hr3
                       replace hg3 := hid hg3)
                    | (go_at_call 109; refine (QM _ hk3.out hr3.out).mono ?_; clear QM; rintro en w4 ⟨hg4, hres4⟩
                       obtain ⟨rfl, hr4⟩ := hres4
                       replace hr4 := hid hr4
                       replace hg4 := hid hg4)
                    | go_in)
                  go_ret
                  rw [hP1.out]
                  exact ⟨grown_trans (grown_trans (HG2.out _ hbw.out) hg3.out) hg4.out, rfl, hr4.out⟩
          · have hJu : decide (x.op = 18 ∨ x.op = 19) = false := by simpa using hJ
            have hb18 : (x.op == 18) = false := by simp; omega
            have hgo : Hid (Cd.goes x i = [(i : Int) + 1]) := by
              rw [Hid]
              unfold Cd.goes
              rw [if_neg hJ, if_pos (by omega)]
              rfl
            have hP1 : Hid (Cd.stepP C x i K = Cd.flowP (h - tk + pt) [(i : Int) + 1] K) := by rw [Hid, HP0.out, hgo.out]
            have QM := fun (W : World) hk hr => HLn.out W hk K hr (i + 1) (by omega) hvn
            rw [show (((i + 1 : Nat) : Int)) = (i : Int) + 1 by omega] at QM
            clear hE hJ
            cases hR2 : Cd.flowP (h - tk + pt) [(i : Int) + 1] K with
            | none =>
              rw [hR2] at QM hP1
              go_wp2_with (first
                | (go_at_call 105; refine (HT.out _ hbA.out).mono ?_; clear HT; rintro en w2 ⟨rfl, hb2⟩
                   have hbw := hid (below_trans hbA.out hb2)
                   have y0 := kc hb2 x0
                   have y1 := kc hb2 x1
                   have hk2 := hid (HK.out.keep hbw.out)
                   have hr2 := hid (HR.out.keep (hbw.out.block g hgl))
                   clear hb2 x0 x1)
                | (go_at_call 106; refine (ends_c _ _).mono ?_; rintro en w9 ⟨rfl, hw9⟩; obtain rfl := hw9.symm; rw [hEn])
                | (go_at_call 108; refine (jumps_c _ _).mono ?_; rintro en w9 ⟨rfl, hw9⟩; obtain rfl := hw9.symm; rw [hJu])
                | (go_at_call 107; refine (puts_c _ _).mono ?_; rintro en w9 ⟨rfl, hw9⟩; obtain rfl := hw9.symm; rw [← HPt.out])
                | (go_at_call 109; refine (QM _ hk2.out hr2.out).mono ?_; clear QM; rintro en w4 ⟨hg4, hres4⟩
                   obtain rfl := hres4
                   replace hg4 := hid hg4)
                | go_in)
              go_ret
              rw [hP1.out]
              exact ⟨grown_trans (HG2.out _ hbw.out) hg4.out, rfl⟩
            | some K2 =>
              rw [hR2] at QM hP1
              go_wp2_with (first
                | (go_at_call 105; refine (HT.out _ hbA.out).mono ?_; clear HT; rintro en w2 ⟨rfl, hb2⟩
                   have hbw := hid (below_trans hbA.out hb2)
                   have y0 := kc hb2 x0
                   have y1 := kc hb2 x1
                   have hk2 := hid (HK.out.keep hbw.out)
                   have hr2 := hid (HR.out.keep (hbw.out.block g hgl))
                   clear hb2 x0 x1)
                | (go_at_call 106; refine (ends_c _ _).mono ?_; rintro en w9 ⟨rfl, hw9⟩; obtain rfl := hw9.symm; rw [hEn])
                | (go_at_call 108; refine (jumps_c _ _).mono ?_; rintro en w9 ⟨rfl, hw9⟩; obtain rfl := hw9.symm; rw [hJu])
                | (go_at_call 107; refine (puts_c _ _).mono ?_; rintro en w9 ⟨rfl, hw9⟩; obtain rfl := hw9.symm; rw [← HPt.out])
                | (go_at_call 109; refine (QM _ hk2.out hr2.out).mono ?_; clear QM; rintro en w4 ⟨hg4, hres4⟩
                   obtain ⟨rfl, hr4⟩ := hres4
                   replace hr4 := hid hr4
                   replace hg4 := hid hg4)
                | go_in)
              go_ret
              rw [hP1.out]
              exact ⟨grown_trans (HG2.out _ hbw.out) hg4.out, rfl, hr4.out⟩
end Go.Proofs.YtpjbfdpblgjmfaaGreatDoor

namespace Go.Proofs.YtpjbfdpblgjmfaaGreatDoor
open Go.RowKit Go.Maps

/-- The program's fault of a function, as its flow tells it. -/
def FlowV (C : Cd.Code) (f : Cd.Fun) : Nat × Bool := match Cd.flowPL C f.ins 0 (Cd.Kn.put (fun _ => none) 0 0) with
  | (some i, _) => (i, false)
  | (none, K) => (f.ins.length, (K f.ins.length).isNone)
def FlowPost (C : Cd.Code) (f : Cd.Fun) (w : World) (kB : Nat) (v : Value) (e : Ending) (w' : World) : Prop := e = .returned (.tuple #[.int .i64 ((FlowV C f).1 : Nat), .bool (FlowV C f).2]) ∧ w.grownBy w' (some kB) ∧ w'.cell? ⟨kB, 5, none⟩ = some v
theorem flow_fin {C : Cd.Code} {f : Cd.Fun} {w w' : World} {kB : Nat} {v : Value} {a' : Act} {i : Nat} {b : Bool} (hd : a'.defers = []) (h2 : a'.tmps[2]? = some (.int .i64 (i : Nat))) (h3 : a'.tmps[3]? = some (.bool b)) (hv : FlowV C f = (i, b)) (hb : w.grownBy w' (some kB)) (h5 : w'.cell? ⟨kB, 5, none⟩ = some v) : bodyPost Tryz.prog Tryz.f63 (FlowPost C f w kB v) .ret a' w' := by
  refine bodyPost_ret (v := .tuple #[.int .i64 (i : Nat), .bool b]) ?_ hd ⟨?_, hb, h5⟩
  · simp [results, Tryz.results63, go_sem, h2, h3]
  · rw [hv]
theorem stepP_vals {C : Cd.Code} {x : Cd.Ins} {i : Nat} {K K' : Cd.Kn} (h : Cd.stepP C x i K = some K') (htk : (0 ≤ (Cd.takes C x).1 ∧ (Cd.takes C x).1 ≤ 100000) ∧ 0 ≤ (Cd.takes C x).2 ∧ (Cd.takes C x).2 ≤ 1) (hv : ∀ b m, K b = some m → 0 ≤ m ∧ m ≤ 4000) : ∀ b m, K' b = some m → 0 ≤ m ∧ m ≤ 4000 := by
  unfold Cd.stepP at h
  split at h
  · cases h
  · rename_i n hn
    have := hv _ _ hn
    split at h
    · cases h
    · rename_i h1
      split at h
      · cases h
      · rename_i h2
        intro b m hb
        rcases Cd.flowP_vals _ _ _ h b m hb with e | e
        · omega
        · exact hv b m e
theorem flowPL_step {C : Cd.Code} {l : List Cd.Ins} {i : Nat} {x : Cd.Ins} {K K' : Cd.Kn} (hx : l[i]? = some x) (h : Cd.stepP C x i K = some K') : Cd.flowPL C (l.drop i) i K = Cd.flowPL C (l.drop (i + 1)) (i + 1) K' := by
  rw [Cd.drop_cons hx, Cd.flowPL, h]
theorem flowPL_bad {C : Cd.Code} {l : List Cd.Ins} {i : Nat} {x : Cd.Ins} {K : Cd.Kn} (hx : l[i]? = some x) (h : Cd.stepP C x i K = none) : Cd.flowPL C (l.drop i) i K = (some i, K) := by
  rw [Cd.drop_cons hx, Cd.flowPL, h]

theorem Cd.opd_jump {C : Cd.Code} {f : Cd.Fun} {first : Bool} {x : Cd.Ins} (h : Cd.opd C f first x = 0) (e : x.op = 18 ∨ x.op = 19) : x.a < f.ins.length := by
  unfold Cd.opd at h
  rw [if_pos e] at h
  by_cases hx : x.a < f.ins.length
  · exact hx
  · rw [if_pos (by omega)] at h
    cases h
structure FlS (C : Cd.Code) (f : Cd.Fun) (vb vc vd v : Value) (kB fn g : Nat) (w0 w wr : World) : Prop where
  k : Kk C f vb vc vd v kB fn (knV g f.ins.length) wr
  b : Below w0.heap.size w0 wr
  g : w.grownBy wr (some kB)
theorem FlS.row {C : Cd.Code} {f : Cd.Fun} {vb vc vd v : Value} {kB fn g : Nat} {w0 w wr wr' : World} (h : FlS C f vb vc vd v kB fn g w0 w wr) (hg : wr.grownBy wr' (some g)) (hgk : g ≠ kB) (hc : CodeM w0 vb vc vd C) (hi : InssM w0 v f.ins) (hw0 : w0.heap.size ≤ g) (hwg : w.heap.size ≤ g) : FlS C f vb vc vd v kB fn g w0 w wr' := by
  obtain ⟨a, b⟩ := h.k.grown hg hgk hc hi h.b hw0
  exact ⟨a, b, grown_then h.g hg hwg⟩
theorem row_neg (w : World) (g n i : Nat) (h : w.rowIs g 3 n (fun j => .int .i64 (if j < i then -1 else 0))) : (w.setCell ⟨g, i, none⟩ (.int .i64 (-1))).rowIs g 3 n (fun j => .int .i64 (if j < i + 1 then -1 else 0)) := by
  refine (World.rowIs.set h i _).congr ?_
  intro j hj
  by_cases e : j = i
  · rw [if_pos e, if_pos (by omega)]
  · rw [if_neg e]
    by_cases e2 : j < i
    · rw [if_pos e2, if_pos (by omega)]
    · rw [if_neg e2, if_neg (by omega)]
set_option maxRecDepth 100000 in
set_option maxHeartbeats 8000000 in
theorem flow_c (C : Cd.Code) (f : Cd.Fun) (vb vc vd v : Value) (kB fn : Nat) (kn : Value) (w0 w : World) (hK : Kk C f vb vc vd v kB fn kn w) (hS : Cd.Small C) (hmem : f ∈ C.funs)
    (hop : ∀ x ∈ f.ins, Cd.fits x.op 22 = true) (hall : ∀ x ∈ f.ins, Cd.opd C f (decide (fn = 0)) x = 0) (hc0 : CodeM w0 vb vc vd C) (hi0 : InssM w0 v f.ins) (hb0 : Below w0.heap.size w0 w) (hw0 : w0.heap.size ≤ kB) (hkn : kn = .slice none 0 0) :
    Calls Tryz.prog 63 #[.pointer (some ⟨kB, 0, none⟩)] w (FlowPost C f w kB v) := by
  have hn := hS.ins f hmem
  have hkB := hK.lt
  obtain ⟨_, c4, c5, c6, hfz⟩ := hK.cells
  subst hkn
  have HI0 := hid hi0
  obtain ⟨ai, ci, rfl, hci, _⟩ := hi0
  have hmk := run_make_row' (P := Tryz.prog) 87 3 (.int .i64 0) 8 Tryz.underlying87 Tryz.infoInt rfl .i64 .i64 (f.ins.length + 1) (by omega) (by omega)
  rw [show (((f.ins.length + 1 : Nat)) : Int) = (f.ins.length : Int) + 1 by omega] at hmk
  have hwl : IntKind.i64.wrap ((f.ins.length : Int) + 1) = f.ins.length + 1 := by rw [IntKind.wrap_i64]; omega
  have hS0 : FlS C f vb vc vd (.slice ai f.ins.length ci) kB fn w.heap.size w0 w ((w.setCell ⟨kB, 6, none⟩ (.slice (some ⟨w.heap.size, 0, none⟩) (f.ins.length + 1) (f.ins.length + 1))).alloc (.cells (madeCells #[.int .i64 0] (f.ins.length + 1)) 3)) := by
    have hb1 : Below w0.heap.size w0 ((w.setCell ⟨kB, 6, none⟩ (.slice (some ⟨w.heap.size, 0, none⟩) (f.ins.length + 1) (f.ins.length + 1))).alloc (.cells (madeCells #[.int .i64 0] (f.ins.length + 1)) 3)) := (hb0.setCell hw0 _).alloc (by simpa using hb0.size) _
    refine ⟨⟨hc0.keep hb1, HI0.out.keep hb1, ?_, hK.hf⟩, hb1, grown_alloc (grown_set (grown_refl _ _) _) _⟩
    exact blk_alloc (blk_set hK.hk)
  have hR0 : ((w.setCell ⟨kB, 6, none⟩ (.slice (some ⟨w.heap.size, 0, none⟩) (f.ins.length + 1) (f.ins.length + 1))).alloc (.cells (madeCells #[.int .i64 0] (f.ins.length + 1)) 3)).rowIs w.heap.size 3 (f.ins.length + 1) (fun j => .int .i64 (if j < 0 then -1 else 0)) := by
    obtain ⟨c, h1, h2, h3⟩ := World.rowIs_made (w.setCell ⟨kB, 6, none⟩ (.slice (some ⟨w.heap.size, 0, none⟩) (f.ins.length + 1) (f.ins.length + 1))) (.int .i64 0) (f.ins.length + 1) 3
    refine ⟨c, by simpa using h1, h2, fun j hj => ?_⟩
    rw [h3 j hj]
    simp
  have HSt := hid hS0
  have HRo := hid hR0
  have HAll := hid hall
  have HOp := hid hop
  clear hS0 hR0 hK hall hop
  have hgk : w.heap.size ≠ kB := by omega
  have hw0g : w0.heap.size ≤ w.heap.size := hb0.size
  go_enter Tryz.func63, Tryz.ntmps63
  go_wp2
  generalize (w.setCell ⟨kB, 6, none⟩ (.slice (some ⟨w.heap.size, 0, none⟩) (f.ins.length + 1) (f.ins.length + 1))).alloc (.cells (madeCells #[.int .i64 0] (f.ins.length + 1)) 3) = W2 at HSt HRo
  clear c4 c5 c6 hfz hmk
  obtain ⟨g, hgg⟩ : ∃ g, w.heap.size = g := ⟨_, rfl⟩
  have hwg : w.heap.size ≤ g := by omega
  rw [hgg] at HSt HRo hgk hw0g ⊢
  clear hgg
  go_loopw [21] (fun t wr => ∃ i : Nat, t = .int .i64 i ∧ i ≤ f.ins.length + 1 ∧ Hid (FlS C f vb vc vd (.slice ai f.ins.length ci) kB fn g w0 w wr) ∧ Hid (wr.rowIs g 3 (f.ins.length + 1) (fun j => .int .i64 (if j < i then -1 else 0)))) (fun t _ => f.ins.length + 1 - (intOf t).toNat)
  case atStart => exact ⟨0, rfl, Nat.zero_le _, HSt, HRo⟩
  case round =>
    obtain ⟨i, rfl, hi, HS, HR⟩ := hrel
    obtain ⟨_, c4, c5, c6, hfz⟩ := HS.out.k.cells
    unfold knV at c6
    by_cases hlt : i < f.ins.length + 1
    · have z0 := HR.out.cell hlt
      have zf := HR.out.frozen i
      have hgl : (i : Int) < (f.ins.length : Int) + 1 := by omega
      have HR2 := hid (row_neg _ _ _ _ HR.out)
      have HS2 := hid (HS.out.row (grown_set (i := i) (grown_refl wr (some g)) (.int .i64 (-1))) hgk hc0 HI0.out hw0g hwg)
      go_wp2
      go_roundw
      case rel => exact ⟨i + 1, by simp, by omega, HS2, HR2⟩
      case measure => simp [intOf]; omega
    · have ei : i = f.ins.length + 1 := by omega
      subst ei
      have hgl : ¬ (((f.ins.length : Int) + 1) < (f.ins.length : Int) + 1) := by omega
      have z0 := HR.out.cell (show 0 < f.ins.length + 1 by omega)
      have zf := HR.out.frozen 0
      have hgl0 : (0 : Int) < (f.ins.length : Int) + 1 := by omega
      have HR2 : Hid (KR (wr.setCell ⟨g, 0, none⟩ (.int .i64 0)) g f.ins.length (Cd.Kn.put (fun _ => none) 0 0)) := by
        refine (World.rowIs.set HR.out 0 _).congr ?_
        intro j hj
        unfold Cd.Kn.put
        by_cases e : j = 0
        · simp [e, encK]
        · have e2 : ¬ ((j : Int) = 0) := by omega
          simp [e, hj, encK]
      have HS2 := hid (HS.out.row (grown_set (i := 0) (grown_refl wr (some g)) (.int .i64 0)) hgk hc0 HI0.out hw0g hwg)
      obtain ⟨_, e4, e5, e6, _⟩ := HS2.out.k.cells
      go_wp2
      generalize wr.setCell ⟨g, 0, none⟩ (.int .i64 0) = W3 at HR2 HS2
      clear c4 c5 c6 hfz z0 zf e4 e5 e6
      go_loopw [41] (fun t wr => ∃ (i : Nat) (K : Cd.Kn), t = .int .i64 i ∧ i ≤ f.ins.length ∧ Hid (FlS C f vb vc vd (.slice ai f.ins.length ci) kB fn g w0 w wr) ∧ Hid (KR wr g f.ins.length K) ∧ Hid (∀ b m, K b = some m → 0 ≤ m ∧ m ≤ 4000) ∧ Hid (Cd.flowPL C f.ins 0 (Cd.Kn.put (fun _ => none) 0 0) = Cd.flowPL C (f.ins.drop i) i K)) (fun t _ => f.ins.length - (intOf t).toNat)
      case atStart =>
        refine ⟨0, _, rfl, Nat.zero_le _, HS2, HR2, ?_, by rw [Hid, List.drop_zero]⟩
        intro b m hb
        unfold Cd.Kn.put at hb
        split at hb
        · cases hb; omega
        · cases hb
      case round =>
        obtain ⟨i, K, rfl, hi, HS, HR, HV, HF⟩ := hrel
        obtain ⟨_, c4, c5, c6, hfz⟩ := HS.out.k.cells
        unfold knV at c6
        by_cases hlt : i < f.ins.length
        · obtain ⟨x, hx, _, hxm, _⟩ := at_some hlt
          have hgl : (i : Int) < (f.ins.length : Int) := by omega
          have hxa := hS.a f hmem x hxm
          have h0 := HAll.out x hxm
          have h13 : x.op = 13 → 0 ≤ x.a ∧ x.a < C.funs.length := fun e => ⟨hxa.1, Cd.opd_13 h0 e⟩
          have h21 : x.op = 21 → 0 ≤ x.a ∧ x.a < C.hans.length := fun e => ⟨hxa.1, Cd.opd_21 h0 e⟩
          have hj : x.op = 18 ∨ x.op = 19 → 0 ≤ x.a ∧ x.a < f.ins.length := fun e => ⟨hxa.1, Cd.opd_jump h0 e⟩
          have htk := Cd.takes_small hS h13 h21
          have QS := step_c C f vb vc vd _ kB fn g i x K w0 wr HS.out.k HR.out hx hS hmem HV.out (HOp.out x hxm) h13 h21 hj hc0 HI0.out HS.out.b hw0g
          clear h13 h21 hj h0
          cases hR : Cd.stepP C x i K with
          | none =>
            rw [hR] at QS
            have HFn := hid (HF.out.trans (flowPL_bad hx hR))
            have HQ := hid QS
            clear QS hR hx htk
            go_wp2_with (first
              | (go_at_call 96; refine HQ.out.mono ?_; clear HQ; rintro en w4 ⟨hg4, hres⟩
                 obtain rfl := hres
                 replace hg4 := hid hg4)
              | go_in)
            exact flow_fin rfl rfl rfl (by unfold FlowV; rw [HFn.out]) (grown_then HS.out.g hg4.out hwg) (hg4.out.cell c5 (by simp; omega))
          | some K1 =>
            rw [hR] at QS
            have HFn := hid (HF.out.trans (flowPL_step hx hR))
            have HV1 := hid (stepP_vals hR htk HV.out)
            have HQ := hid QS
            clear QS hR hx htk
            go_wp2_with (first
              | (go_at_call 96; refine HQ.out.mono ?_; clear HQ; rintro en w4 ⟨hg4, hres⟩
                 obtain ⟨rfl, hr4⟩ := hres
                 replace hr4 := hid hr4
                 replace hg4 := hid hg4)
              | go_in)
            go_roundw
            case rel => exact ⟨i + 1, K1, by simp, by omega, HS.out.row hg4.out hgk hc0 HI0.out hw0g hwg, hr4, HV1, HFn⟩
            case measure => simp [intOf]; omega
        · have ei : i = f.ins.length := by omega
          subst ei
          have hgl : ¬ ((f.ins.length : Int) < (f.ins.length : Int)) := by omega
          have r0 : wr.cell? ⟨g, f.ins.length, none⟩ = some (.int .i64 (encK (K f.ins.length))) := World.rowIs.cell HR.out (by omega : f.ins.length < f.ins.length + 1)
          have hgl1 : (f.ins.length : Int) < (f.ins.length : Int) + 1 := by omega
          have HFv : Hid (FlowV C f = (f.ins.length, (K f.ins.length).isNone)) := by
            rw [Hid]
            unfold FlowV
            rw [HF.out, List.drop_length]
            rfl
          have HVl := hid (HV.out f.ins.length)
          generalize K f.ins.length = kk at r0 HFv HVl
          cases kk with
          | none =>
            have hen : encK (none : Option Int) = -1 := rfl
            rw [hen] at r0
            go_wp2
            go_quiet (fail)
            go_wp2
            exact flow_fin rfl rfl rfl HFv.out ⟨HS.out.g.os, HS.out.g.tape, HS.out.g.output, HS.out.g.size, HS.out.g.block⟩ c5
          | some m =>
            have hen : encK (some m) = m := rfl
            rw [hen] at r0
            have hm := HVl.out m rfl
            have hm1 : (m == -1) = false := by simp; omega
            go_wp2
            go_quiet (fail)
            go_wp2
            exact flow_fin rfl rfl rfl HFv.out ⟨HS.out.g.os, HS.out.g.tape, HS.out.g.output, HS.out.g.size, HS.out.g.block⟩ c5
end Go.Proofs.YtpjbfdpblgjmfaaGreatDoor
