/-
  A round of the law: Set.
-/
import Derived.Test.YtidgppghakmkaaaKg
set_option linter.unusedVariables false
set_option linter.unusedSimpArgs false
namespace Go.Proofs.Ytidgppghakmkaaa
open Go.RowKit Go.Shelf Hp Go.Sort
attribute [local simp] wide_fn

set_option maxRecDepth 100000 in
set_option maxHeartbeats 16000000 in
theorem case2c {w wr : World} {hb g N rb ca cb lb loff ln lc i : Nat} {K R A B C : Int} {T : List Th} {f : Nat → PC} {bs : Nat → Nat} {lv : Value} {r : Nat → Cl} (F : Nat → Value) (Q0 : Exit → Act → World → Prop) (hLS : LS w wr hb g N rb ca cb T f bs lv r) (h1 : i < ln) (h2 : i < 300)
    (k0 : wr.cell? ⟨lb, loff + i * 5, none⟩ = some (.int .i64 K)) (k1 : wr.cell? ⟨lb, loff + i * 5 + 1, none⟩ = some (.int .i64 R)) (k2 : wr.cell? ⟨lb, loff + i * 5 + 2, none⟩ = some (.int .i64 A)) (k3 : wr.cell? ⟨lb, loff + i * 5 + 3, none⟩ = some (.int .i64 B)) (k4 : wr.cell? ⟨lb, loff + i * 5 + 4, none⟩ = some (.int .i64 C)) (hK : modI K 8 = 2) {kk : Nat} {t : Th} (ht : T[kk]? = some t) (hpt : (r (modI R 6).toNat) = ⟨true, (ad T kk : Nat)⟩) (hl0 : 0 < t.l.length) {jn : Nat} (hjn : modI C (t.l.length : Int) = (jn : Int)) (hjl : jn < t.l.length) :
    Code.wp Try.prog ((Try.f3.body.bind firstLoop).getD .skip) (Exit.then (fun a' w' => WI w hb g N rb ca cb (some ⟨lb, loff, none⟩) ln lc a' w' ∧ Wmu a' w' < 300 - i) Q0) ⟨#[F 0, .slice (some ⟨lb, loff, none⟩) ln lc, F 2, F 3, F 4, .pointer (some ⟨hb, 0, none⟩), F 6, .pointer (some ⟨rb, 0, none⟩), .slice (some ⟨ca, 0, none⟩) 6 6, .slice (some ⟨cb, 0, none⟩) 6 6, .int .i64 (i : Nat), F 11, F 12, F 13, F 14, F 15, F 16, F 17, F 18, F 19, F 20, F 21, F 22, F 23, F 24, F 25, F 26, F 27, F 28, F 29, F 30, F 31, F 32, F 33, F 34, F 35, F 36, F 37, F 38, F 39, F 40, F 41, F 42, F 43, F 44, F 45, F 46, F 47, F 48, F 49, F 50, F 51, F 52, F 53, F 54, F 55, F 56, F 57, F 58, F 59, F 60, F 61, F 62, F 63, F 64, F 65, F 66, F 67, F 68, F 69, F 70, F 71, F 72, F 73, F 74, F 75, F 76, F 77, F 78, F 79, F 80, F 81, F 82, F 83, F 84, F 85, F 86, F 87, F 88, F 89, F 90, F 91, F 92, F 93, F 94, F 95, F 96, F 97, F 98, F 99, F 100, F 101, F 102, F 103, F 104, F 105, F 106, F 107, F 108, F 109, F 110, F 111, F 112, F 113, F 114, F 115, F 116, F 117, F 118, F 119, F 120, F 121, F 122, F 123, F 124, F 125, F 126, F 127, F 128, F 129, F 130, F 131, F 132, F 133, F 134, F 135, F 136, F 137, F 138, F 139, F 140, F 141, F 142, F 143, F 144, F 145, F 146, F 147, F 148, F 149, F 150, F 151, F 152, F 153, F 154, F 155, F 156, F 157, F 158, F 159, F 160, F 161, F 162, F 163, F 164, F 165, F 166, F 167, F 168, F 169, F 170, F 171, F 172, F 173, F 174, F 175, F 176, F 177, F 178, F 179, F 180, F 181, F 182, F 183, F 184, F 185, F 186, F 187, F 188, F 189, F 190, F 191, F 192, F 193, F 194, F 195, F 196, F 197, F 198, F 199, F 200, F 201, F 202, F 203, F 204, F 205, F 206, F 207, F 208, F 209, F 210, F 211, F 212, F 213, F 214, F 215, F 216, F 217, F 218, F 219, F 220, F 221, F 222, F 223, F 224, F 225, F 226, F 227, F 228, F 229, F 230, F 231, F 232, F 233, F 234, F 235, F 236, F 237, F 238, F 239, F 240, F 241, F 242, F 243, F 244, F 245, F 246, F 247, F 248, F 249, F 250, F 251, F 252, F 253, F 254, F 255, F 256, F 257, F 258, F 259, F 260, F 261, F 262, F 263, F 264, F 265, F 266, F 267, F 268, F 269, F 270, F 271, F 272, F 273, F 274, F 275, F 276, F 277, F 278, F 279, F 280, F 281, F 282, F 283, F 284, F 285, F 286, F 287, F 288, F 289, F 290, F 291, F 292, F 293, F 294, F 295, F 296], []⟩ wr := by
  have elI : (i : Int) < (ln : Int) := by omega
  have e3I : (i : Int) < 300 := by omega
  have hwi : IntKind.i64.wrap ((i : Int) + 1) = (i : Int) + 1 := IntWalk.i64_in _ (by omega)
  obtain ⟨X, hX⟩ : ∃ X, wr.alloc (.cells #[.int .i64 K, .int .i64 R, .int .i64 A, .int .i64 B, .int .i64 C] 33) = X := ⟨_, rfl⟩
  have hcX : Ch (fun _ => False) wr X := by rw [← hX]; exact (Ch.refl _ wr).al _
  have hBX : X.heap[wr.heap.size]? = some (.cells #[.int .i64 K, .int .i64 R, .int .i64 A, .int .i64 B, .int .i64 C] 33 (0, 0)) := by rw [← hX]; exact World.alloc_heap_new wr _
  have hSX := hLS.quiet hcX
  obtain ⟨ri, hri, hr6⟩ := mod_nat R 6 (by omega)
  obtain ⟨ki, hki, hk6⟩ := mod_nat A 6 (by omega)
  have hri' : modI R 6 = (ri : Int) := hri
  have hki' : modI A 6 = (ki : Int) := hki
  clear hri hki
  have hriI : (ri : Int) < 6 := by omega
  have hkiI : (ki : Int) < 6 := by omega
  obtain ⟨x0, x1, x2, x3, x4⟩ := op_cells hBX
  have hwx : wr.heap.size < X.heap.size := (Array.getElem?_eq_some_iff.1 hBX).1
  have zr := (Array.getElem?_eq_some_iff.1 hLS.rc).1
  have za := (Array.getElem?_eq_some_iff.1 hLS.ra).1
  replace hBX := hid hBX
  replace hSX := hid hSX
  clear hLS hcX
  have hpt' : r ri = ⟨true, (ad T kk : Nat)⟩ := by rw [hri'] at hpt; simpa using hpt
  obtain ⟨b0, b1, bf⟩ := (hSX.out.rc.at hr6).cells
  rw [hpt'] at b0 b1
  clear hpt
  have hkT := (List.getElem?_eq_some_iff.1 ht).1
  obtain ⟨lg, lcap, elv⟩ := hSX.out.dm.lv (by omega)
  subst elv
  have hkI : (kk : Int) < (T.length : Int) := by omega
  have hL1 : X.cell? ⟨rb, 1, none⟩ = some (.slice (some ⟨lg, 0, none⟩) T.length lcap) := by have := hSX.out.dm.hd; unfold World.cell?; rw [this]; rfl
  have hln := len_used T
  have hle := hSX.out.dm.le
  have hmx := hSX.out.dm.max
  have hud := ad_used ht
  have hst : t.size = t.l.length + 1 := rfl
  have HAq : ∀ q, Calls Try.prog 10 #[.pointer (some ⟨rb, 0, none⟩), .int .i64 (ad T kk : Nat)] (X.drewN q) fun e w' => e = .returned (.int .i64 (kk : Nat)) ∧ ∃ m, w' = X.drewN m := fun q => (At_any (X.drewN q) rb N T bs _ (hSX.out.dm.keep (fun _ _ => rfl)) kk t ht).mono fun e w'' h => ⟨h.1, q, h.2⟩
  conv => arg 2; whnf
  go_wp2_with (first
    | (go_at_call 5; refine (mod_any _ _ _ (by decide) (by decide)).mono ?_; rintro e9 w9 ⟨rfl, hw9⟩; obtain rfl := hw9.symm; (first | rw [hri'] | rw [hki'] | rw [hK]); dsimp only))
  go_quiet (exact HAq _)
  have hS1 := hSX.out.quiet (wr' := X.drewN nq) ⟨Nat.le_refl _, fun _ _ _ => rfl, rfl, rfl⟩
  have hB1 : (X.drewN nq).heap[wr.heap.size]? = some (.cells #[.int .i64 K, .int .i64 R, .int .i64 A, .int .i64 B, .int .i64 C] 33 (0, 0)) := hBX.out
  have hwx1 : wr.heap.size < (X.drewN nq).heap.size := hwx
  clear HAq hSX hBX x0 x1 x2 x3 x4 b0 b1 bf hL1 hX hwx
  generalize X.drewN nq = X1 at hS1 hB1 hwx1 ⊢
  obtain ⟨x0, x1, x2, x3, x4⟩ := op_cells hB1
  obtain ⟨-, -, -, t3⟩ := hS1.dm.thing ht
  have hnl : ¬ ((t.l.length : Int) = 0) := by omega
  have HMq : ∀ q, Calls Try.prog 5 #[.int .i64 C, .int .i64 (t.l.length : Int)] (X1.drewN q) fun e w' => e = .returned (.int .i64 (jn : Nat)) ∧ ∃ m, w' = X1.drewN m := fun q => (mod_any (X1.drewN q) C (t.l.length : Int) (by omega) (by omega)).mono fun e w'' h => ⟨by rw [h.1, hjn], q, h.2⟩
  have hjI : (jn : Int) < (t.l.length : Int) := by omega
  go_wp2
  go_quiet (exact HMq _)
  have hS2 := hS1.quiet (wr' := X1.drewN nq) ⟨Nat.le_refl _, fun _ _ _ => rfl, rfl, rfl⟩
  have hB2 : (X1.drewN nq).heap[wr.heap.size]? = some (.cells #[.int .i64 K, .int .i64 R, .int .i64 A, .int .i64 B, .int .i64 C] 33 (0, 0)) := hB1
  clear HMq hS1 hB1 x0 x1 x2 x3 x4 t3 hwx1
  generalize X1.drewN nq = X2 at hS2 hB2 ⊢
  obtain ⟨x0, x1, x2, x3, x4⟩ := op_cells hB2
  obtain ⟨a0, a1, -⟩ := (hS2.ra.at hk6).cells
  obtain ⟨b0, b1, -⟩ := (hS2.rc.at hk6).cells
  have hwx2 : wr.heap.size < X2.heap.size := (Array.getElem?_eq_some_iff.1 hB2).1
  have hal : ∀ {x : Addr} {v : Value} (o : Obj), X2.cell? x = some v → (X2.alloc o).cell? x = some v := fun o h => Lib.cell?_alloc_some (W := X2) o h
  have aa0 := fun o => hal o a0
  have aa1 := fun o => hal o a1
  have ax0 : ∀ o o', ((X2.alloc o).alloc o').cell? ⟨wr.heap.size, 0, none⟩ = some (.int .i64 K) := fun o o' => Lib.cell?_alloc_some (W := X2.alloc o) o' (hal o x0)
  have ax2 : ∀ o o', ((X2.alloc o).alloc o').cell? ⟨wr.heap.size, 2, none⟩ = some (.int .i64 A) := fun o o' => Lib.cell?_alloc_some (W := X2.alloc o) o' (hal o x2)
  clear hal
  go_wp2_with (first
    | (go_at_call 5; refine (mod_any _ _ _ (by decide) (by decide)).mono ?_; rintro e9 w9 ⟨rfl, hw9⟩; obtain rfl := hw9.symm; (first | rw [hri'] | rw [hki'] | rw [hK]); dsimp only))
  obtain ⟨c, hcp, hcn⟩ : ∃ c : Cl, c.ptr = (r ki).ptr ∧ c.n = (r ki).n := ⟨⟨(r ki).ptr, (r ki).n⟩, rfl, rfl⟩
  have hcv : c.ptr = true → ∃ q, Is T c.n q := by
    rw [hcp, hcn]
    exact fun h => hS2.rv ki hk6 h
  rw [← hcp, ← hcn]
  have hcY : Ch (fun _ => False) X2 ((X2.alloc (.cells #[.bool c.ptr, .int .i64 c.n] 43)).alloc (.cells #[.bool c.ptr, .int .i64 c.n] 43)) := ((Ch.refl _ X2).al _).al _
  have hb1 : ((X2.alloc (.cells #[.bool c.ptr, .int .i64 c.n] 43)).alloc (.cells #[.bool c.ptr, .int .i64 c.n] 43)).heap[X2.heap.size]? = some (.cells #[.bool c.ptr, .int .i64 c.n] 43 (0, 0)) := blk_alloc (World.alloc_heap_new X2 _)
  have hb2 : ((X2.alloc (.cells #[.bool c.ptr, .int .i64 c.n] 43)).alloc (.cells #[.bool c.ptr, .int .i64 c.n] 43)).heap[X2.heap.size + 1]? = some (.cells #[.bool c.ptr, .int .i64 c.n] 43 (0, 0)) := by
    have := World.alloc_heap_new (X2.alloc (.cells #[.bool c.ptr, .int .i64 c.n] 43)) (.cells #[.bool c.ptr, .int .i64 c.n] 43)
    rwa [World.size_alloc] at this
  have hSY := hS2.quiet hcY
  have hgl := hSY.dm.lt (.inr (.inr ⟨kk, hkT, rfl⟩))
  have hn1 : bs kk ≠ X2.heap.size := by have := hS2.dm.lt (.inr (.inr ⟨kk, hkT, rfl⟩)); omega
  have hn2 : bs kk ≠ X2.heap.size + 1 := by have := hS2.dm.lt (.inr (.inr ⟨kk, hkT, rfl⟩)); omega
  clear hS2 hB2 x0 x1 x2 x3 x4 a0 a1 b0 b1 aa0 aa1 ax0 ax2 hcY hcp hcn
  generalize (X2.alloc (.cells #[.bool c.ptr, .int .i64 c.n] 43)).alloc (.cells #[.bool c.ptr, .int .i64 c.n] 43) = Y at hSY hb1 hb2 hgl ⊢
  generalize X2.heap.size = Bc at hb1 hb2 hn1 hn2 ⊢
  obtain ⟨-, -, -, t3⟩ := hSY.dm.thing ht
  obtain ⟨f0, f1, ff⟩ := hSY.dm.field ht hjl
  have c0 : Y.cell? ⟨Bc, 0, none⟩ = some (.bool c.ptr) := by unfold World.cell?; rw [hb1]; rfl
  have c1 : Y.cell? ⟨Bc, 1, none⟩ = some (.int .i64 c.n) := by unfold World.cell?; rw [hb1]; rfl
  replace hSY := hid hSY
  refine wp_region_split 7 1 (by kernel_rfl) rfl (by kernel_rfl) (by kernel_rfl) (by kernel_rfl) ?_
  simp only [List.take_succ_cons, List.take_zero]
  repeat (gi_big_quiet_step (fail))
  refine wpQuietIn_nil ?_
  intro _ hw'
  obtain ⟨nq, hw''⟩ := hw'
  subst hw''
  refine wpAnyIn_ready (rs := [7]) (by kernel_rfl) (by simp) (AllReadyIn.cons rfl (fun K hK => ?_) AllReadyIn.nil)
  go_simp
  refine hK _ _ ?_
  clear hK K
  refine wpAnyIn_done (by kernel_rfl) ?_ _
  have hSN := hSY.out.quiet (wr' := Y.drewN nq) ⟨Nat.le_refl _, fun _ _ _ => rfl, rfl, rfl⟩
  have hset := fun (W2 : World) (f2 : Nat → PC) => hSN.setf (W2 := W2) (f2 := f2) ht hjl c hcv rfl
  have hb3 : (((Y.drewN nq).setCell ⟨bs kk, jn * 2, none⟩ (.bool c.ptr)).setCell ⟨bs kk, jn * 2 + 1, none⟩ (.int .i64 c.n)).heap[Bc + 1]? = some (.cells #[.bool c.ptr, .int .i64 c.n] 43 (0, 0)) := blk_other (blk_other (w := Y.drewN nq) hb2 (Ne.symm hn2)) (Ne.symm hn2)
  have hly := hid hSN.ly
  have hok := hid hSN.ok
  clear hSN hSY hb1 hb2 t3 f0 f1 ff c0 c1 hgl
  generalize ((Y.drewN nq).setCell ⟨bs kk, jn * 2, none⟩ (.bool c.ptr)).setCell ⟨bs kk, jn * 2 + 1, none⟩ (.int .i64 c.n) = Z at hset hb3 ⊢
  obtain ⟨HZ, hcZ, haZ, -⟩ := hset Z f
  obtain ⟨a0, a1, -⟩ := (haZ.at hr6).cells
  rw [hpt'] at a0 a1
  have d0 : Z.cell? ⟨Bc + 1, 0, none⟩ = some (.bool c.ptr) := by unfold World.cell?; rw [hb3]; rfl
  have d1 : Z.cell? ⟨Bc + 1, 1, none⟩ = some (.int .i64 c.n) := by unfold World.cell?; rw [hb3]; rfl
  have HS := fun q => Set_any (Z.drewN q) hb g N T f ⟨HZ.hd, HZ.row, HZ.ne, HZ.le, HZ.max⟩ hly.out hok.out kk jn t ht hjl c
  replace hset := hid hset
  clear HZ hcZ haZ hb3
  go_wp2
  refine wp_region_split 8 1 (by kernel_rfl) rfl (by kernel_rfl) (by kernel_rfl) (by kernel_rfl) ?_
  simp only [List.take_succ_cons, List.take_zero]
  repeat (gi_big_quiet_step (fail))
  refine wpQuietIn_nil ?_
  intro _ hw'
  obtain ⟨nq2, hw''⟩ := hw'
  subst hw''
  refine wpAnyIn_ready (rs := [8]) (by kernel_rfl) (by simp) (AllReadyIn.cons rfl (fun K hK => ?_) AllReadyIn.nil)
  go_simp
  refine ⟨rfl, (callsIn_wide.2 (HS nq2)).mono ?_⟩
  rintro e9 W2 ⟨rfl, ⟨f2, H2, hL2⟩, hc2⟩
  refine hK _ _ ?_
  clear hK K
  refine wpAnyIn_done (by kernel_rfl) ?_ _
  have hS5 := (hset.out W2 f2).2.2.2 H2 hL2 ⟨hc2.size, hc2.same, hc2.eo⟩
  have HA := hid (alike_of hS5)
  clear HS hset d0 d1 a0 a1 H2 hL2 hc2
  go_wp2_with (go_at_call 15; refine HA.out.mono ?_; clear HA; rintro e9 w9 ⟨rfl, hS9⟩)
  exact round_end ⟨_, _, _, _, _, hS9⟩ h2 h1 ⟨rfl, rfl, rfl, rfl, rfl, rfl, rfl, rfl⟩
end Go.Proofs.Ytidgppghakmkaaa
