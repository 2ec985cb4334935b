/-
  What is read of a text may have been read; what is written of it is read again and written the same.
  The law: what is written of a tree that was read is read as that tree, and written the same.
  The law, with the program's Parse.
-/
import Derived.Test.YtoajnlhegallpaaGreatDoorMAw
import Derived.Test.YtoajnlhegallpaaGreatDoorMEe
import Derived.Test.YtoajnlhegallpaaGreatDoorMTa
import Derived.Test.YtoajnlhegallpaaGreatDoorMSd
import Derived.Test.YtoajnlhegallpaaGreatDoorMEj
import Derived.Test.YtoajnlhegallpaaGreatDoorMEh
set_option linter.unusedVariables false
set_option linter.unusedSimpArgs false
set_option maxRecDepth 100000
set_option maxHeartbeats 8000000
namespace Go.Proofs.YtoajnlhegallpaaGreatDoor
open Go.RowKit
open Sy (Tr)

theorem Kids.ki {w : World} {F : Nat → Prop} {v : Value} {l : List Tr} (h : Kids w F v l) : Ki w v l := by
 induction h with
 | nil => exact .nil none 0
 | row g c kids ks hg h0 hc hcell hk ih => exact .row g 0 c kids ks h0 hc (fun i hi => by rw [Nat.zero_add]; exact hcell i hi) ih
def rdOf (s : ByteArray) : Tr × (Nat × Nat) := Sy.parseB (rdEnv s) 4000 (rdTs s)
theorem rd_tkg (s : ByteArray) : Sy.TkG (rdTs s) := by
 unfold rdTs
 split
 ·intro t ht; cases ht
 ·exact Sy.toks_g _ _ _
def Fine (T : Tr) : Prop := Nice T ∧ T.kind = 0 ∧ nodes T ≤ 6000
theorem rd_ok (s : ByteArray) : ((rdOf s).2 = (0, 0) ∧ Fine (rdOf s).1 ∧ ∃ n, high (rdOf s).1 = n + 1 ∧ Sy.Gp n (rdOf s).1) ∨ ((rdOf s).2.1 ≠ 0 ∧ (rdOf s).1 = Sy.zT) := by
 obtain ⟨N, e⟩ : ∃ N : Nat, rdOf s = Sy.parseB (rdEnv s) N (rdTs s) := ⟨4000, rfl⟩
 rw [e]
 have hg := rd_tkg s
 have hl := rd_len s
 have h1 := prog_nice (z := rdEnv s) (N := N) (rdTs s) hg.ok
 have h2 := Sy.g_prog (z := rdEnv s) (N := N) (rdTs s) hg
 unfold Sy.parseB
 cases hp : Sy.progB (rdEnv s) N (rdTs s) with
 | error f => exact .inr ⟨h1.2 f hp, rfl⟩
 | ok v =>
  obtain ⟨T, r⟩ := v
  obtain ⟨g1, g2, g3⟩ := h1.1 T r hp
  exact .inl ⟨rfl, ⟨g1, g2, (by omega : nodes T ≤ 6000)⟩, h2.1 T r hp⟩
theorem join_eq : ∀ (l : List (List UInt8)), Lib.join l [32] = Lx.joinB l := by
 intro l
 induction l with
 | nil => rfl
 | cons x r ih =>
  cases r with
  | nil => exact Lib.join_one x [32]
  | cons y r => simpa [Lib.join, List.intercalate, Lx.joinB] using ih
theorem rd_again {n : Nat} {T : Tr} (hn : n ≤ 200) (hT : Sy.Gp n T) (hh : high T = n + 1) (t : ByteArray) (ht : t.data.toList = Lib.join (tk (n + 1) T) [32]) (hl : t.size ≤ 3000) :
  ∃ U k, Sy.EqT k T U ∧ rdOf t = (U, (0, 0)) ∧ Fine U ∧ tk (high U) U = tk (n + 1) T := by
 obtain ⟨N, hN, e⟩ : ∃ N : Nat, 3000 < N ∧ rdOf t = Sy.parseB (rdEnv t) N (rdTs t) := ⟨4000, by omega, rfl⟩
 rw [join_eq] at ht
 have hx := Lx.toks_join t.size (tk (n + 1) T) 0 (Sy.lxl_prog hT)
 rw [← ht] at hx
 have h1 : rdTs t = Lx.toksOf 0 (tk (n + 1) T) := by rw [rdTs, if_neg (by omega), hx]
 have h2 : (rdEnv t).fin = (0, 0) := by rw [rdEnv, if_neg (by omega), envOf, hx]
 have hg := rd_tkg t
 have hln := rd_len t
 obtain ⟨U, k, g1, g2, g3, g4, g5, g6⟩ := Sy.read_again hn hT hh (z := rdEnv t) (by rw [h2]) (N := N) (rdTs t) (by rw [h1]; exact Sy.Ms.toks _ _) hg (by omega)
 refine ⟨U, k, g1, ?_, ⟨g3, g4, by omega⟩, g6⟩
 rw [e, Sy.parseB, g2]
def wrOf (T : Tr) : List UInt8 := Lib.join (tk (high T) T) [32]
theorem print_fine (T : Tr) (h : Fine T) (w : World) (hT : TabW w) (v : Value) (hk : Ki w v T.kids) : Calls Tryz.prog 9 #[nodeV T v] w fun e w' => StrRes w (wrOf T) e w' := by
 obtain ⟨hN, h0, hn⟩ := h
 have hwp := nice_wp (high T) T hN (by omega) (Nat.le_refl _) (.inr (.inr h0))
 have hsn := nice_snd (high T) T hN (by omega) (Nat.le_refl _)
 have htb := tk_TB (high T) T hwp hN
 have hjl := jn_len _ htb.2
 have htl := htb.1
 unfold jn at hjl
 exact Print_any (high T) (high T) T hsn (Nat.le_trans (cnt_le _ _) hn) hwp (by omega) (by omega) v w hT hk
theorem wr_same {n : Nat} {T U : Tr} (hh : high T = n + 1) (h : tk (high U) U = tk (n + 1) T) : wrOf U = wrOf T := by rw [wrOf, wrOf, h, hh]
theorem one_main : ∃ U, rdOf ⟨#[109, 97, 105, 110, 32, 61, 32, 49]⟩ = (U, (0, 0)) ∧ Fine U ∧ wrOf U = [109, 97, 105, 110, 32, 61, 32, 49] := by
 obtain ⟨h1, h2, h3⟩ := Sy.oneT_ok
 obtain ⟨U, k, g1, g2, g3, g4⟩ := rd_again (by omega) h1 h2 ⟨#[109, 97, 105, 110, 32, 61, 32, 49]⟩ (by rw [h3, join_eq]; rfl) (by decide)
 refine ⟨U, g2, g3, ?_⟩
 rw [wrOf, g4, h3, join_eq]
 rfl

open Go.RowKit
open Sy (Tr)

theorem two_new (w1 : World) (T : Tr) (a : Option Addr) (l c fk fp : Nat) (t1 t2 : TypeId) :
  ∃ W, W = (w1.alloc (.cells #[.int .i64 T.kind, .int .i64 T.pos, .string ⟨T.name.toArray⟩, .int .i64 T.num, .slice a l c] t1)).alloc (.cells #[.int .i64 fk, .int .i64 fp] t2) ∧
   Blk W w1.heap.size (nodeL T a l c) ∧ Blk W (w1.heap.size + 1) [.int .i64 fk, .int .i64 fp] ∧ Below w1.heap.size w1 W ∧ w1.heap.size + 1 < W.heap.size := by
 refine ⟨_, rfl, (Blk.new w1 (nodeL T a l c) t1).alloc _, ?_, ((Below.refl _ _).alloc (Nat.le_refl _) _).alloc (by simp) _, by simp⟩
 have h := Blk.new (w1.alloc (.cells #[.int .i64 T.kind, .int .i64 T.pos, .string ⟨T.name.toArray⟩, .int .i64 T.num, .slice a l c] t1)) [.int .i64 fk, .int .i64 fp] t2
 rw [show (w1.alloc (.cells #[.int .i64 T.kind, .int .i64 T.pos, .string ⟨T.name.toArray⟩, .int .i64 T.num, .slice a l c] t1)).heap.size = w1.heap.size + 1 by simp] at h
 exact h

theorem two_set {w3 : World} {b : Nat} {o0 o1 o2 o3 o4 o5 o6 : Value} (g1 : Blk w3 b [o0, o1, o2, o3, o4]) (g2 : Blk w3 (b + 1) [o5, o6]) (v0 v1 v2 v3 v4 v5 v6 : Value) :
  ∃ X, X = (((((((w3.setCell ⟨b, 0, none⟩ v0).setCell ⟨b, 1, none⟩ v1).setCell ⟨b, 2, none⟩ v2).setCell ⟨b, 3, none⟩ v3).setCell ⟨b, 4, none⟩ v4).setCell ⟨b + 1, 0, none⟩ v5).setCell ⟨b + 1, 1, none⟩ v6) ∧
   Blk X b [v0, v1, v2, v3, v4] ∧ (∀ g, g ≠ b → g ≠ b + 1 → X.heap[g]? = w3.heap[g]?) ∧ X.heap.size = w3.heap.size ∧ ∀ (w : World) (B : Nat), B ≤ b → Below B w w3 → Below B w X := by
 refine ⟨_, rfl, ((g1.store v0 v1 v2 v3 v4).other (by omega) 0 v5).other (by omega) 1 v6, fun g h1 h2 => ?_, by simp, fun w B hB h => ?_⟩
 ·rw [Below.heap_setCell _ _ _ _ h2, Below.heap_setCell _ _ _ _ h2, Below.heap_setCell _ _ _ _ h1, Below.heap_setCell _ _ _ _ h1, Below.heap_setCell _ _ _ _ h1, Below.heap_setCell _ _ _ _ h1, Below.heap_setCell _ _ _ _ h1]
 ·exact ((((((h.setCell (p := ⟨b, 0, none⟩) hB _).setCell (p := ⟨b, 1, none⟩) hB _).setCell (p := ⟨b, 2, none⟩) hB _).setCell (p := ⟨b, 3, none⟩) hB _).setCell (p := ⟨b, 4, none⟩) hB _).setCell (p := ⟨b + 1, 0, none⟩) (by show B ≤ b + 1; omega) _).setCell (p := ⟨b + 1, 1, none⟩) (by show B ≤ b + 1; omega) _

theorem again_core (s : ByteArray) (w : World) (hmax : s.size ≤ 140737488351232) (hT : TabW w)
  (hpa : ∀ (x : ByteArray) (W : World), x.size ≤ 140737488351232 → Below w.heap.size w W → Calls Tryz.prog 6 #[.string x] W fun en w' => PRes W (rdOf x) en w') :
  Calls Tryz.prog 5 #[.string s] w fun e w' => e = .returned (.bool true) ∧ Hid (Below w.heap.size w w') := by
 obtain ⟨U1, hU1, hF1, hW1⟩ := one_main
 have HPA := hid hpa
 have HPR := hid (fun (T : Tr) (hf : Fine T) (W : World) (hW : Below w.heap.size w W) (v : Value) (hk : Ki W v T.kids) => print_fine T hf W (hT.past hW) v hk)
 have HP1 := hid (hpa ⟨#[109, 97, 105, 110, 32, 61, 32, 49]⟩ w (by decide) (Below.refl _ _))
 rw [hU1] at HP1
 have HF1 := hid hF1
 have HW1 := hid hW1
 clear hU1 hF1 hW1 hT hpa
 go_enter Tryz.func5, Tryz.ntmps5
 go_wp2_with fail
 refine HP1.out.mono ?_
 rintro e w1 ⟨a, l, c, rfl, HK1, HB1⟩
 obtain ⟨W1, hW1, g1, g2, gB, gz⟩ := two_new w1 U1 a l c 0 0 24 27
 have HG1 := hid g1
 have HG2 := hid g2
 have HGB := hid gB
 have HK1i := hid (HK1.out.ki.past gB)
 have HBW := hid (HB1.out.trans (gB.mono HB1.out.size))
 go_wp2_with fail
 rw [show ((0 : Nat) : Int) = 0 from rfl] at hW1
 rw [← hW1]
 clear hW1 g1 g2 gB
 refine (HPR.out U1 HF1.out W1 HBW.out (.slice a l c) HK1i.out).mono ?_
 rintro e w2 ⟨rfl, HB2⟩
 rw [HW1.out]
 have HB02 := hid (HBW.out.trans (HB2.out.mono HBW.out.size))
 have g1 := Blk.past HG1.out HB2.out
 have g2 := Blk.past HG2.out HB2.out
 have HP2 := hid (HPA.out s w2 hmax HB02.out)
 have HRD := hid (rd_ok s)
 generalize rdOf s = X at HP2 HRD
 obtain ⟨T, fk, fp⟩ := X
 go_wp2_with fail
 refine HP2.out.mono ?_
 rintro e w3 ⟨a3, l3, c3, rfl, HK3, HB3⟩
 have g13 := Blk.past g1 HB3.out
 have g23 := Blk.past g2 HB3.out
 obtain ⟨⟨q0, q1, q2, q3, q4⟩, q5, q6, q7, q8, q9⟩ := blk5 g13
 have d0 := g23 0 _ rfl
 have d1 := g23 1 _ rfl
 obtain ⟨X, hX, k1, k2, k3, k4⟩ := two_set g13 g23 (.int .i64 T.kind) (.int .i64 T.pos) (.string ⟨T.name.toArray⟩) (.int .i64 T.num) (.slice a3 l3 c3) (.int .i64 fk) (.int .i64 fp)
 have z1 := HB1.out.size
 have z2 := HB2.out.size
 have z3 := HB3.out.size
 have KX := hid (HK3.out.carry (w' := X) (fun g hg _ => k2 g (by omega) (by omega)) (fun _ h _ => h))
 have BX := hid (k4 w w.heap.size z1 (HB02.out.trans (HB3.out.mono (by have := HB02.out.size; omega))))
 have BLX := hid k1
 rcases HRD.out with ⟨hf, hfine, n, hn, hgp⟩ | ⟨hf, hz⟩
 ·have hfk : fk = 0 := congrArg Prod.fst hf
  subst hfk
  have HP4 := hid (HPR.out T hfine X BX.out (.slice a3 l3 c3) KX.out.ki)
  have HFI := hid hfine
  have HGP := hid hgp
  have HN := hid hn
  clear hf hfine hgp hn
  go_wp2_with fail
  rw [show ((0 : Nat) : Int) = 0 from rfl] at hX
  rw [← hX]
  refine HP4.out.mono ?_
  rintro e w4 ⟨rfl, HB4⟩
  clear hX q0 q1 q2 q3 q4 q5 q6 q7 q8 q9 d0 d1 g1 g2 g13 g23 k1 k2 k3 k4
  obtain ⟨⟨q0, q1, q2, q3, q4⟩, q5, q6, q7, q8, q9⟩ := blk5 (Blk.past BLX.out HB4.out)
  have K4 := hid (KX.out.carry (w' := w4) (F' := fun _ => True) (fun g _ hg => HB4.out.block g hg) (fun _ _ _ => trivial))
  have HH := hid (high_any 6000 T HFI.out.2.2 (by omega) w4 _ a3 l3 c3 K4.out)
  generalize hwr : wrOf T = tx at *
  go_wp2_with fail
  refine HH.out.mono ?_
  rintro e w5 ⟨rfl, HB5⟩
  have HB45 := hid (HB4.out.trans (HB5.out.mono HB4.out.size))
  have HB05 := hid (BX.out.trans (HB45.out.mono BX.out.size))
  by_cases hgo : (tx.length : Int) ≤ 3000 ∧ (high T : Int) ≤ 200
  ·have hlen := hgo.1
   have HSZ : Hid ((⟨tx.toArray⟩ : ByteArray).size ≤ 3000) := by
    have : (⟨tx.toArray⟩ : ByteArray).size = tx.length := by simp [ByteArray.size]
    rw [Hid, this]; omega
   obtain ⟨U, ek, heq, hrd, hfu, htk⟩ := rd_again (by have := HN.out; omega) HGP.out HN.out ⟨tx.toArray⟩ (by rw [← hwr, wrOf, HN.out]) HSZ.out
   have HEQ := hid heq
   have HFU := hid hfu
   have HWU : Hid (wrOf U = tx) := by rw [Hid, ← hwr]; exact wr_same HN.out htk
   have HP5 := hid (HPA.out ⟨tx.toArray⟩ w5 (by have := HSZ.out; omega) HB05.out)
   rw [hrd] at HP5
   have K5 := hid (K4.out.carry (w' := w5) (F' := fun _ => True) (fun g _ hg => HB5.out.block g hg) (fun _ _ _ => trivial))
   have r1 := Blk.past BLX.out HB45.out
   have R1 := hid r1
   clear heq hfu htk hrd q0 q1 q2 q3 q4 q5 q6 q7 q8 q9
   go_wp2_with fail
   refine HP5.out.mono ?_
   rintro e w6 ⟨a6, l6, c6, rfl, HK6, HB6⟩
   obtain ⟨W6, hW6, j1, j2, jB, jz⟩ := two_new w6 U a6 l6 c6 0 0 24 27
   rw [show ((0 : Nat) : Int) = 0 from rfl] at hW6
   have HB06 := hid (HB05.out.trans (HB6.out.mono HB05.out.size))
   have HJB := hid jB
   have HB0W := hid (HB06.out.trans (jB.mono HB06.out.size))
   have KT := hid ((K5.out.carry (F' := fun _ => True) (fun g _ hg => HB6.out.block g hg) (fun _ _ _ => trivial)).carry (F' := fun _ => True) (fun g _ hg => jB.block g hg) (fun _ _ _ => trivial))
   have KU := hid (HK6.out.carry (w' := W6) (F' := fun _ => True) (fun g _ hg => jB.block g hg) (fun _ _ _ => trivial))
   have HSM := hid (fun (W : World) (hW : Below W6.heap.size W6 W) => same_np ek T U HEQ.out (by have := HFI.out.2.2; omega) W _ _ a3 a6 l3 c3 l6 c6 (KT.out.carry (F' := fun _ => True) (fun g _ hg => hW.block g hg) (fun _ _ _ => trivial)) (KU.out.carry (F' := fun _ => True) (fun g _ hg => hW.block g hg) (fun _ _ _ => trivial)))
   have HPU := hid (fun (W : World) (hW : Below W6.heap.size W6 W) => HPR.out U HFU.out W (HB0W.out.trans (hW.mono HB0W.out.size)) (.slice a6 l6 c6) (KU.out.ki.past hW))
   rw [HWU.out] at HPU
   unfold nodeV at HPU
   have HN6 := hid (Blk.past (Blk.past R1.out HB6.out) (jB.mono (Nat.le_refl _)))
   have HM6 := hid j1
   obtain ⟨⟨q0, q1, q2, q3, q4⟩, _⟩ := blk5 HN6.out
   obtain ⟨⟨p0, p1, p2, p3, p4⟩, _⟩ := blk5 HM6.out
   have d0 := (j2 0 _ rfl).1
   rw [show ((0 : Nat) : Int) = 0 from rfl] at d0
   have hN6 := Blk.lt HN6.out
   have hM6 := Blk.lt HM6.out
   go_upto_region 12 with fail
   rw [← hW6]
   clear hW6 j1 j2 jB
   generalize (T.kind : Int) = tk at *
   generalize (T.pos : Int) = tp at *
   generalize T.num = tn at *
   generalize T.name = tm at *
   generalize (U.kind : Int) = uk at *
   generalize (U.pos : Int) = up at *
   generalize U.num = un at *
   generalize U.name = um at *
   go_wp2_with (first
    | (go_at_call 8; refine (HSM.out _ (Below.refl _ _)).mono ?_; rintro e w7 ⟨rfl, HB7⟩; have y0 := past_cells HB7.out (World.block_lt_of_cell? W6 _ q0) q0; have y1 := past_cells HB7.out (World.block_lt_of_cell? W6 _ q1) q1; have y2 := past_cells HB7.out (World.block_lt_of_cell? W6 _ q2) q2; have y3 := past_cells HB7.out (World.block_lt_of_cell? W6 _ q3) q3; have y4 := past_cells HB7.out (World.block_lt_of_cell? W6 _ q4) q4; have y5 := past_cells HB7.out (World.block_lt_of_cell? W6 _ p0) p0; have y6 := past_cells HB7.out (World.block_lt_of_cell? W6 _ p1) p1; have y7 := past_cells HB7.out (World.block_lt_of_cell? W6 _ p2) p2; have y8 := past_cells HB7.out (World.block_lt_of_cell? W6 _ p3) p3; have y9 := past_cells HB7.out (World.block_lt_of_cell? W6 _ p4) p4; have y10 := past_cells HB7.out (World.block_lt_of_cell? W6 _ d0) d0)
    | (go_at_call 9; refine (HPU.out _ HB7.out).mono ?_; rintro e w8 ⟨rfl, HB8⟩))
   have B7 := HB0W.out.trans (HB7.out.mono HB0W.out.size)
   refine bodyPost_ret (v := .bool true) (by simp [results, Tryz.results5, go_sem]) rfl ⟨rfl, hid (B7.trans (HB8.out.mono B7.size))⟩
  ·go_wp2_with fail
   all_goals refine bodyPost_ret (v := .bool true) (by simp [results, Tryz.results5, go_sem]) rfl ⟨rfl, HB05⟩
 ·have hz' : T = Sy.zT := hz
  subst hz'
  have hf2 : ¬ (fk : Int) = 0 := by have : fk ≠ 0 := hf; omega
  have HS := hid (same_any 10 Sy.zT (by simp [Sy.zT, nodes, nodesL]) (by omega) X _ (fun _ => True) a3 none l3 c3 0 0 KX.out .nil)
  go_wp2_with fail
  rw [← hX]
  refine HS.out.mono ?_
  rintro e w4 ⟨rfl, HB4⟩
  go_wp2_with fail
  refine bodyPost_ret (v := .bool true) (by simp [results, Tryz.results5, go_sem]) rfl ⟨rfl, hid (BX.out.trans (HB4.out.mono BX.out.size))⟩

open Go.RowKit

theorem again_any (s : ByteArray) (w : World) (ev : Value) (hmax : s.size ≤ 140737488351232) (h2 : 2 < w.heap.size) (hv : w.cell? ⟨2, 0, none⟩ = some ev) (hev : ev = .nilIface ∨ ∃ te pe, ev = .iface te pe) (hT : TabW w) :
  Calls Tryz.prog 5 #[.string s] w fun e w' => e = .returned (.bool true) ∧ Hid (Below w.heap.size w w') :=
 again_core s w hmax hT fun x W hx hW => dparse x W ev hx (Nat.lt_of_lt_of_le h2 hW.size) ((World.cell?_of_block (a := ⟨2, 0, none⟩) (hW.block 2 h2)).trans hv) hev
end Go.Proofs.YtoajnlhegallpaaGreatDoor
