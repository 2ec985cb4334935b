import Derived.Test.YtejciampbnfbhaaMJs
import Derived.Laws.Concat
import Derived.Laws.IdiomStrings
import Derived.Deep.Cut
import Derived.Test.YtejciampbnfbhaaHw
import Derived.Test.YtejciampbnfbhaaJzT
import Derived.Test.YtejciampbnfbhaaMJzM
import Derived.Test.YtejciampbnfbhaaMDz
set_option linter.unusedVariables false
set_option linter.unusedSimpArgs false
set_option maxRecDepth 100000
set_option maxHeartbeats 16000000
namespace Go.Proofs.Ytejciampbnfbhaa
open Go.RowKit
theorem conv1 (W : World) (g : Nat) (c : UInt8) (x : Int) (hc : W.cell? ⟨g, 0, none⟩ = some (.int .u8 x)) (h : x = c.toNat) :
  (convert 110 9 (.slice (some ⟨g, 0, none⟩) 1 1)).run Try.prog W = .ok (.string ⟨[c].toArray⟩) W := by
 subst h
 exact run_convert_bytes_back (P := Try.prog) W 110 9 5 ⟨g, 0, none⟩ 1 [c] Try.underlying110 Try.underlying5 Try.underlying9 (fun j hj => by
  have : j = 0 := by simpa using hj
  subst this
  simpa [Addr.add] using hc)
theorem dig_byte (m : Nat) : ((48 : Int) + (m : Int) % 10) = ((48 + m % 10).toUInt8).toNat := by
 have : (48 + m % 10).toUInt8.toNat = 48 + m % 10 := by simp [Nat.toUInt8]; omega
 rw [this]; omega
theorem var_byte (n : Nat) (h1 : 1 ≤ n) (h2 : n ≤ 26) : ((97 : Int) + (n : Int) - 1) = ((96 + n).toUInt8).toNat := by
 have : (96 + n).toUInt8.toNat = 96 + n := by simp [Nat.toUInt8]; omega
 rw [this]; omega
def WStr (B : Nat) (w : World) (en : Ending) (w' : World) : Prop := ∃ s : ByteArray, en = .returned (.string s) ∧ s.size ≤ B ∧ Hid (Ch (fun _ => False) w w')
def ShowOK (t : Ty.P) : Prop := ∀ (w : World) (os az : Value), IsT w t os az → Calls Try.prog 34 #[tyV t.kind t.num t.row os az] w (WStr (t.parts * 4000000000) w)
theorem digits_any (n : Nat) (w : World) (hn : n ≤ 1000000000) : Calls Try.prog 61 #[.int .i64 n] w (WStr 1000000001 w) := by
 go_enter Try.func61, Try.ntmps61
 go_wp2_with fail
 go_loopw [0, 3] (fun t u wr => ∃ (m : Nat) (s : ByteArray), t = .int .i64 m ∧ u = .string s ∧ m ≤ 1000000000 ∧ s.size ≤ 1000000000 - m ∧ Hid (Ch (fun _ => False) w wr)) (fun t _ _ => (intOf t).toNat)
 case atStart => exact ⟨n, _, rfl, rfl, hn, by simp [ByteArray.size], Ch.refl _ _⟩
 case round =>
  obtain ⟨m, s, rfl, rfl, hm, hl, HB⟩ := hrel
  rename World => wr
  have kc := conv1 (wr.alloc (.cells #[.int .u8 (48 + (m : Int) % 10)] 5)) wr.heap.size _ _ (by simp [go_sem]) (dig_byte m)
  generalize hcc : (48 + m % 10).toUInt8 = c at kc
  have hsz : (⟨[c].toArray⟩ : ByteArray).size = 1 := rfl
  have ks := fun (W : World) => run_string_add_sum (P := Try.prog) W ⟨[c].toArray⟩ s (by rw [hsz]; omega)
  have hq := hid (HB.out.al (.cells #[.int .u8 (48 + (m : Int) % 10)] 5))
  have hz2 : (⟨[c].toArray⟩ ++ s : ByteArray).size = 1 + s.size := by rw [ByteArray.size_append, hsz]
  by_cases h10 : m < 10
  ·have hz : (m : Int) / 10 = 0 := by omega
   go_wp2_with fail
   go_ret
   exact ⟨_, rfl, by rw [hz2]; omega, hq⟩
  ·have hz : ¬ (m : Int) / 10 = 0 := by omega
   go_wp2_with fail
   go_roundw
   case rel => exact ⟨m / 10, _, by go_num, rfl, by omega, by rw [hz2]; omega, hq⟩
   case measure => simp [intOf]; omega
def argsN (k : Int) : Int := if k = 0 ∨ k = 1 ∨ k = 2 ∨ k = 3 then 0 else if k = 4 then 1 else if k = 5 ∨ k = 6 then 2 else -1
theorem args_any (k : Int) (w : World) : Calls Try.prog 60 #[.int .i64 k] w fun e w' => e = .returned (.int .i64 (argsN k)) ∧ w' = w := by
 unfold argsN
 go_enter Try.func60, Try.ntmps60
 go_wp2
 all_goals go_ret
 all_goals simp_all
theorem in_any {t : Ty.P} (hS : ShowOK t) (hp : t.parts ≤ 1000000) (least : Nat) (hle : least = 0 ∨ least = 1 ∨ least = 2) (w : World) (os az : Value) (h : IsT w t os az) :
  Calls Try.prog 62 #[tyV t.kind t.num t.row os az, .int .i64 least] w (WStr (t.parts * 4000000000 + 2) w) := by
 have hq := hid (al_ch w (tyB t.kind t.num t.row os az))
 have HS := hS (w.alloc (tyB t.kind t.num t.row os az)) os az (h.past ((Below.refl _ _).alloc (Nat.le_refl _) _))
 have hk : t.kind = 6 ∨ t.kind = 5 ∨ t.kind = 4 ∨ ((t.kind == 6) = false ∧ (t.kind == 5) = false ∧ (t.kind == 4) = false) := by
  cases t <;> simp [Ty.P.kind]
 generalize hpN : t.parts * 4000000000 = N at HS ⊢
 have hN : N ≤ 4000000000000000 := hpN ▸ Nat.le_trans (Nat.mul_le_mul_right 4000000000 hp) (by decide)
 clear hpN
 generalize t.kind = k at hk HS hq ⊢
 generalize t.num = n at HS hq ⊢
 generalize t.row = r at HS hq ⊢
 clear hS h
 rcases hle with rfl | rfl | rfl
 all_goals rcases hk with rfl | rfl | rfl | ⟨k6, k5, k4⟩
 all_goals
  go_enter Try.func62, Try.ntmps62
  go_wp2_with (go_at_call 34; refine HS.mono ?_; clear HS; rintro en w2 ⟨s, rfl, hs, hc⟩; have ks := fun (W : World) => run_string_add_sum (P := Try.prog) W ⟨#[40]⟩ s (by have h1 : (⟨#[40]⟩ : ByteArray).size = 1 := rfl; omega); have ks2 := fun (W : World) => run_string_add_sum (P := Try.prog) W (⟨#[40]⟩ ++ s) ⟨#[41]⟩ (by rw [ByteArray.size_append]; have h1 : (⟨#[40]⟩ : ByteArray).size = 1 := rfl; have h2 : (⟨#[41]⟩ : ByteArray).size = 1 := rfl; omega))
  go_ret
  exact ⟨_, rfl, by first | omega | (simp only [ByteArray.size_append]; have h1 : (⟨#[40]⟩ : ByteArray).size = 1 := rfl; have h2 : (⟨#[41]⟩ : ByteArray).size = 1 := rfl; omega), hq.out.trans hc.out (fun _ h => h.elim)⟩
end Go.Proofs.Ytejciampbnfbhaa

namespace Go.Proofs.Ytejciampbnfbhaa
open Go.RowKit
theorem asL (B : ByteArray) : ∃ l : List UInt8, B = ⟨l.toArray⟩ ∧ l.length = B.size := ⟨B.data.toList, by cases B; simp, rfl⟩
theorem szL (l : List UInt8) : (⟨l.toArray⟩ : ByteArray).size = l.length := rfl
def shB : Ty.P → Bool
 | .var n => decide (1 ≤ n ∧ n ≤ 1000000000)
 | .list a => shB a
 | .pair a b => shB a && shB b
 | .fn a b o r => shB a && shB b && decide (r ≤ 1000000000) && o.all (fun x => decide (x.length ≤ 1000000))
 | _ => true
theorem IsT.past2 {w w' : World} {t : Ty.P} {os az : Value} (h : IsT w t os az) (hc : Ch (fun _ => False) w w') : IsT w' t os az := IsT.carry (fun b hb => hc.same b hb.lt (fun h => h)) h
theorem show_var (n : Nat) (h1 : 1 ≤ n) (h2 : n ≤ 1000000000) : ShowOK (.var n) := by
 rintro w os az ⟨⟨a, c, rfl⟩, ⟨b, d, rfl⟩⟩
 simp only [Ty.P.kind, Ty.P.num, Ty.P.row]
 have hab : ((0 : Int) != argsN 0) = false := by simp [argsN]
 by_cases h26 : n ≤ 26
 ·have kc := fun (q : Nat) => conv1 (((w.alloc (.cells #[.int .i64 0, .int .i64 n, .int .i64 0, .slice a 0 c, .slice b 0 d] 49)).drewN q).alloc (.cells #[.int .u8 (97 + (n : Int) - 1)] 5)) (w.heap.size + 1) _ _ (by simp [go_sem]) (var_byte n h1 h26)
  generalize (96 + n).toUInt8 = ch at kc
  go_enter Try.func34, Try.ntmps34
  go_wp2_with fail
  go_quiet ((go_at_call 60; exact Calls.quiet_of_same (args_any _ _)))
  go_wp2_with fail
  go_ret
  exact ⟨_, rfl, by simp [ByteArray.size, Ty.P.parts], ((al_ch w _).dn nq).al _⟩
 ·go_enter Try.func34, Try.ntmps34
  go_wp2_with fail
  go_quiet ((go_at_call 60; exact Calls.quiet_of_same (args_any _ _)))
  go_wp2_with (go_at_call 61; refine (digits_any n _ h2).mono ?_; rintro en w2 ⟨s, rfl, hs, hb⟩; have ks := fun (W : World) => run_string_add_sum (P := Try.prog) W ⟨#[97]⟩ s (by have h1 : (⟨#[97]⟩ : ByteArray).size = 1 := rfl; omega))
  go_ret
  exact ⟨_, rfl, by rw [ByteArray.size_append]; have h1 : (⟨#[97]⟩ : ByteArray).size = 1 := rfl; simp only [Ty.P.parts]; omega, ((al_ch w _).dn nq).trans hb.out (fun _ h => h.elim)⟩
theorem show_plain (t : Ty.P) (ht : t = .int ∨ t = .bool ∨ t = .unit) : ShowOK t := by
 rcases ht with rfl | rfl | rfl
 all_goals
  rintro w os az ⟨⟨a, c, rfl⟩, ⟨b, d, rfl⟩⟩
  simp only [Ty.P.kind, Ty.P.num, Ty.P.row]
  have hab : ((0 : Int) != argsN 1) = false := by simp [argsN]
  have hab2 : ((0 : Int) != argsN 2) = false := by simp [argsN]
  have hab3 : ((0 : Int) != argsN 3) = false := by simp [argsN]
  go_enter Try.func34, Try.ntmps34
  go_wp2_with fail
  go_quiet ((go_at_call 60; exact Calls.quiet_of_same (args_any _ _)))
  go_wp2_with fail
  go_ret
  exact ⟨_, rfl, by simp [ByteArray.size, Ty.P.parts], (al_ch w _).dn nq⟩
theorem show_list {t : Ty.P} (hS : ShowOK t) (hp : t.parts ≤ 1000000) : ShowOK (.list t) := by
 rintro w os az ⟨⟨a, c, rfl⟩, g, o, d, os', az', rfl, hd, hE, hT⟩
 have HS := hid hS
 have hg := hE.lt
 have hgn : ¬ g = w.heap.size := by omega
 have HT := hid hT
 obtain ⟨e0, e1, e2, e3, e4⟩ := hE
 have hN := Nat.mul_le_mul_right 4000000000 hp
 clear hS hT
 simp only [Ty.P.kind, Ty.P.num, Ty.P.row]
 have hab : ((1 : Int) != argsN 4) = false := by simp [argsN]
 go_enter Try.func34, Try.ntmps34
 go_wp2_with fail
 go_quiet ((go_at_call 60; exact Calls.quiet_of_same (args_any _ _)))
 go_wp2_with (go_at_call 62; refine (in_any HS.out hp 2 (by simp) _ os' az' (HT.out.past2 ((al_ch w _).dn _))).mono ?_; rintro en w2 ⟨s, rfl, hs, hb⟩; have ks := fun (W : World) => run_string_add_sum (P := Try.prog) W s ⟨#[32, 108, 105, 115, 116]⟩ (by have h1 : (⟨#[32, 108, 105, 115, 116]⟩ : ByteArray).size = 5 := rfl; omega))
 go_ret
 exact ⟨_, rfl, by rw [ByteArray.size_append]; have h1 : (⟨#[32, 108, 105, 115, 116]⟩ : ByteArray).size = 5 := rfl; simp only [Ty.P.parts]; omega, ((al_ch w _).dn nq).trans hb.out (fun _ h => h.elim)⟩
theorem show_pair {t u : Ty.P} (hS : ShowOK t) (hU : ShowOK u) (hp : t.parts ≤ 1000000) (hp2 : u.parts ≤ 1000000) : ShowOK (.pair t u) := by
 rintro w os az ⟨⟨a, c, rfl⟩, g, o, d, os', az', os2, az2, rfl, hd, hE, hT, hF, hT2⟩
 have HS := hid hS
 have HU := hid hU
 have HP1 := hid hp
 have HP2 := hid hp2
 have hg := hE.lt
 have HT1 := hid hT
 have HT2 := hid hT2
 obtain ⟨e0, e1, e2, e3, e4⟩ := hE
 obtain ⟨f0, f1, f2, f3, f4⟩ := hF
 clear hS hU hT hT2 hp hp2
 simp only [Ty.P.kind, Ty.P.num, Ty.P.row]
 have hab : ((2 : Int) != argsN 5) = false := by simp [argsN]
 go_enter Try.func34, Try.ntmps34
 go_wp2_with fail
 go_quiet ((go_at_call 60; exact Calls.quiet_of_same (args_any _ _)))
 go_upto_region 19 with (fail)
 have hqW := hid ((al_ch w (tyB 5 0 0 (.slice a 0 c) (.slice (some ⟨g, o, none⟩) 2 d))).dn nq)
 have hbW : Hid (((w.alloc (tyB 5 0 0 (.slice a 0 c) (.slice (some ⟨g, o, none⟩) 2 d))).drewN nq).heap[w.heap.size]? = some (tyB 5 0 0 (.slice a 0 c) (.slice (some ⟨g, o, none⟩) 2 d))) := hid (World.alloc_heap_new w (tyB 5 0 0 (.slice a 0 c) (.slice (some ⟨g, o, none⟩) 2 d)))
 change Code.wp _ _ _ _ ((w.alloc (tyB 5 0 0 (.slice a 0 c) (.slice (some ⟨g, o, none⟩) 2 d))).drewN nq)
 generalize (w.alloc (tyB 5 0 0 (.slice a 0 c) (.slice (some ⟨g, o, none⟩) 2 d))).drewN nq = w1 at *
 replace HT1 := hid (HT1.out.past2 hqW.out)
 replace HT2 := hid (HT2.out.past2 hqW.out)
 replace e0 := hid (cell_keeps hqW.out e0)
 replace e1 := hid (cell_keeps hqW.out e1)
 replace e2 := hid (cell_keeps hqW.out e2)
 replace e3 := hid (cell_keeps hqW.out e3)
 replace e4 := hid (cell_keeps hqW.out e4)
 replace f0 := hid (cell_keeps hqW.out f0)
 replace f1 := hid (cell_keeps hqW.out f1)
 replace f2 := hid (cell_keeps hqW.out f2)
 replace f3 := hid (cell_keeps hqW.out f3)
 replace f4 := hid (cell_keeps hqW.out f4)
 obtain ⟨⟨-, -, -, -, HB4⟩, -⟩ := ty_cells hbW.out
 have ga := fun w' : World => Hold.cell (w' := w') HB4
 have ge0 := fun w' : World => Hold.cell (w' := w') e0.out
 have ge1 := fun w' : World => Hold.cell (w' := w') e1.out
 have ge2 := fun w' : World => Hold.cell (w' := w') e2.out
 have ge3 := fun w' : World => Hold.cell (w' := w') e3.out
 have ge4 := fun w' : World => Hold.cell (w' := w') e4.out
 have gf0 := fun w' : World => Hold.cell (w' := w') f0.out
 have gf1 := fun w' : World => Hold.cell (w' := w') f1.out
 have gf2 := fun w' : World => Hold.cell (w' := w') f2.out
 have gf3 := fun w' : World => Hold.cell (w' := w') f3.out
 have gf4 := fun w' : World => Hold.cell (w' := w') f4.out
 have hcc := Ch.drew (fun _ => False) w1
 have hS0 := Hold.of hcc
 clear HB4
 refine wp_region_held_drew (S := (Hold w1)) (by kernel_rfl) (by exact hS0) (fun hHeld => ?_)
 refine tk 0 rfl ?_
 refine tk 1 rfl ?_
 refine tk 2 rfl ?_
 refine tk 3 rfl ?_
 refine tk 6 rfl ?_
 refine tk 7 rfl ?_
 refine tk 8 rfl ?_
 refine tk 9 rfl ?_
 refine rd1 4 rfl (fun K hK => ?_)
 go_simp
 refine ((in_any HS.out (by exact HP1.out) 2 (by simp) _ os' az' (HT1.out.past2 hcc)).mono ?_)
 rintro en w2 ⟨s1, rfl, hs1, hc1⟩
 have hcc := hcc.trans hc1.out (fun _ h => .inl h)
 have hS5 := Hold.of hcc
 clear hc1
 dsimp only
 have kA := fun (W : World) => run_string_add_sum (P := Try.prog) W s1 ⟨#[32, 42, 32]⟩ (by have := HP1.out; have h1 : (⟨#[32, 42, 32]⟩ : ByteArray).size = 3 := rfl; omega)
 clear hHeld
 refine gn hK (fun hHeld => ?_)
 clear hK K
 refine tk 5 rfl ?_
 refine rd1 10 rfl (fun K hK => ?_)
 go_simp
 refine ((in_any HU.out (by exact HP2.out) 1 (by simp) _ os2 az2 (HT2.out.past2 hcc)).mono ?_)
 rintro en w3 ⟨s2, rfl, hs2, hc2⟩
 have hcc := hcc.trans hc2.out (fun _ h => .inl h)
 have hS5 := Hold.of hcc
 clear hc2
 dsimp only
 have hz3 : (⟨#[32, 42, 32]⟩ : ByteArray).size = 3 := rfl
 have kB := fun (W : World) => run_string_add_sum (P := Try.prog) W (s1 ++ ⟨#[32, 42, 32]⟩) s2 (by have := HP1.out; have := HP2.out; rw [ByteArray.size_append, hz3]; omega)
 clear hHeld
 refine gn hK (fun hHeld => ?_)
 clear hK K
 refine tk 11 rfl ?_
 refine tk 12 rfl ?_
 refine wpAnyH_done (by kernel_rfl) ?_ _
 clear hHeld
 simp only [Act.put, List.getElem_toArray, List.getElem_cons_zero, List.getElem_cons_succ, List.setIfInBounds_toArray, List.set_cons_zero, List.set_cons_succ]
 clear hS5 ga ge0 ge1 ge2 ge3 ge4 gf0 gf1 gf2 gf3 gf4 kA kB
 replace hs1 := hid hs1
 replace hs2 := hid hs2
 go_wp2_with fail
 go_ret
 exact ⟨_, rfl, by have hs1 := hs1.out; have hs2 := hs2.out; have hN := HP1.out; have hN2 := HP2.out; simp only [ByteArray.size_append, hz3]; simp only [Ty.P.parts]; omega, hqW.out.trans hcc (fun _ h => h.elim)⟩
theorem show_fn {t u : Ty.P} {ops : List (List UInt8)} {r : Nat} (hS : ShowOK t) (hU : ShowOK u) (hp : t.parts ≤ 1000000) (hp2 : u.parts ≤ 1000000) (hr : r ≤ 1000000000) (hl : ops.length ≤ 1000000) (hops : ∀ x ∈ ops, x.length ≤ 1000000) : ShowOK (.fn t u ops r) := by
 rintro w os az ⟨⟨a, c, rfl, hc, hcells⟩, g, o, d, os', az', os2, az2, rfl, hd, hE, hT, hF, hT2⟩
 have HOC := hid hcells
 replace hops := hid hops
 clear hcells
 have HS := hid hS
 have HU := hid hU
 have HP1 := hid hp
 have HP2 := hid hp2
 have hg := hE.lt
 have HT1 := hid hT
 have HT2 := hid hT2
 obtain ⟨e0, e1, e2, e3, e4⟩ := hE
 obtain ⟨f0, f1, f2, f3, f4⟩ := hF
 clear hS hU hT hT2 hp hp2
 simp only [Ty.P.kind, Ty.P.num, Ty.P.row]
 have hab : ((2 : Int) != argsN 6) = false := by simp [argsN]
 go_enter Try.func34, Try.ntmps34
 go_wp2_with fail
 go_quiet ((go_at_call 60; exact Calls.quiet_of_same (args_any _ _)))
 go_upto_region 20 with (fail)
 have hqW := hid ((al_ch w (tyB 6 0 r (.slice a ops.length c) (.slice (some ⟨g, o, none⟩) 2 d))).dn nq)
 have hbW : Hid (((w.alloc (tyB 6 0 r (.slice a ops.length c) (.slice (some ⟨g, o, none⟩) 2 d))).drewN nq).heap[w.heap.size]? = some (tyB 6 0 r (.slice a ops.length c) (.slice (some ⟨g, o, none⟩) 2 d))) := hid (World.alloc_heap_new w (tyB 6 0 r (.slice a ops.length c) (.slice (some ⟨g, o, none⟩) 2 d)))
 change Code.wp _ _ _ _ ((w.alloc (tyB 6 0 r (.slice a ops.length c) (.slice (some ⟨g, o, none⟩) 2 d))).drewN nq)
 generalize (w.alloc (tyB 6 0 r (.slice a ops.length c) (.slice (some ⟨g, o, none⟩) 2 d))).drewN nq = w1 at *
 replace HT1 := hid (HT1.out.past2 hqW.out)
 replace HT2 := hid (HT2.out.past2 hqW.out)
 replace e0 := hid (cell_keeps hqW.out e0)
 replace e1 := hid (cell_keeps hqW.out e1)
 replace e2 := hid (cell_keeps hqW.out e2)
 replace e3 := hid (cell_keeps hqW.out e3)
 replace e4 := hid (cell_keeps hqW.out e4)
 replace f0 := hid (cell_keeps hqW.out f0)
 replace f1 := hid (cell_keeps hqW.out f1)
 replace f2 := hid (cell_keeps hqW.out f2)
 replace f3 := hid (cell_keeps hqW.out f3)
 replace f4 := hid (cell_keeps hqW.out f4)
 replace HOC : Hid (ops ≠ [] → ∃ g k, a = some ⟨g, k, none⟩ ∧ ∀ i (h : i < ops.length), w1.cell? ⟨g, k + i, none⟩ = some (.string ⟨ops[i].toArray⟩)) := hid (fun h0 => by
  obtain ⟨g, k, h1, h2⟩ := HOC.out h0
  exact ⟨g, k, h1, fun i hi => cell_keeps hqW.out (h2 i hi)⟩)
 obtain ⟨⟨q0, q1, q2, q3, q4⟩, -⟩ := ty_cells hbW.out
 go_wp2_with fail
 go_loopg [3, 4] (ops.length + 1) (fun q v3 v4 wr => ∃ (m : Nat) (X : List UInt8), v4 = .int .i64 (m : Nat) ∧ v3 = .string ⟨X.toArray⟩ ∧ m ≤ ops.length ∧ q = ops.length + 1 - m ∧ Hid (X.length ≤ m * 1000002) ∧ Hid (Ch (fun _ => False) w1 wr))
 case atStart => exact ⟨0, [], rfl, rfl, Nat.zero_le _, by omega, hid (by simp), hid (Ch.refl _ _)⟩
 case round =>
  obtain ⟨m, X, rfl, rfl, hm, rfl, hX, hcr⟩ := hrel
  rename World => wr
  have q3 := cell_keeps hcr.out q3
  have q2 := cell_keeps hcr.out q2
  have hXs := hX.out
  by_cases hlt : m < ops.length
  ·obtain ⟨g2, k2, ha, hcell⟩ := HOC.out (by intro h; rw [h] at hlt; simp at hlt)
   have ce := cell_keeps hcr.out (hcell m hlt); have hxl := hops.out _ (List.getElem_mem hlt); generalize ops[m] = x at ce hxl; subst ha; clear hcell; have hsz : (⟨x.toArray⟩ : ByteArray).size ≤ 1000000 := by simpa [ByteArray.size] using hxl
   have h22 : (⟨#[44, 32]⟩ : ByteArray).size = 2 := rfl; have m1 : (m : Int) < (ops.length : Int) := by omega
   have m2 : (0 : Int) ≤ (m : Int) := by omega
   have hwi : IntKind.i64.wrap ((m : Int) + 1) = (m : Int) + 1 := IntWalk.i64_in _ (by omega)
   by_cases h0 : m = 0
   ·subst h0
    simp only [Nat.add_zero] at ce; have kA := fun (W : World) => run_string_add_sum (P := Try.prog) W ⟨X.toArray⟩ ⟨x.toArray⟩ (by rw [szL]; omega); replace hsz := hid hsz; replace hXs := hid hXs; replace hxl := hid hxl
    go_wp2_with fail
    go_roundg (ops.length + 1 - 1)
    case measure => omega
    case rel =>
      obtain ⟨L, e, hL⟩ := asL (⟨X.toArray⟩ ++ ⟨x.toArray⟩); exact ⟨1, L, by simp, congrArg Value.string e, by omega, rfl, hid (by rw [hL, ByteArray.size_append, szL X]; have := hsz.out; have := hXs.out; omega), hcr⟩
   ·have h1 : (0 : Int) < (m : Int) := by omega
    have hXn : X.length ≤ 1000002000000 := by omega
    replace hsz := hid hsz; replace hXs := hid hXs; replace h22 := hid h22
    go_wp2_with fail
    go_roundg (ops.length + 1 - (m + 1))
    case measure => omega
    case rel =>
      obtain ⟨L, e, hL⟩ := asL (⟨X.toArray⟩ ++ ⟨#[44, 32]⟩ ++ ⟨x.toArray⟩); exact ⟨m + 1, L, by simp, congrArg Value.string e, by omega, rfl, hid (by rw [hL, ByteArray.size_append, ByteArray.size_append, h22.out, szL X]; have := hsz.out; have := hXs.out; omega), hcr⟩
  ·obtain rfl : m = ops.length := by omega
   have m1 : ¬ (ops.length : Int) < (ops.length : Int) := by omega
   have q4 := cell_keeps hcr.out q4; clear HOC
   go_upto_if 87 with (fail)
   go_cut [3] from 85 (fun s3 wx => ∃ Y : List UInt8, s3 = .string ⟨Y.toArray⟩ ∧ Hid (Y.length ≤ ops.length * 1000002 + 1000001010 ∧ Ch (fun _ => False) w1 wx))
   case first =>
    by_cases hr0 : r = 0
    ·subst hr0
     replace hXs := hid hXs
     go_wp2_with fail
     go_meet
     case rel => exact ⟨_, rfl, hid ⟨Nat.le_trans hX.out (Nat.le_add_right _ _), hcr.out⟩⟩
    ·have hr1 : (0 : Int) < (r : Int) := by omega
     have HD := digits_any r; have h9 : (⟨#[32]⟩ : ByteArray).size = 1 := rfl; have h10 : (⟨#[124, 32, 114]⟩ : ByteArray).size = 3 := rfl
     by_cases hx0 : X = []
     ·subst hx0
      have h0 : (⟨#[]⟩ : ByteArray).size = 0 := rfl; have kA := fun (W : World) => run_string_add_sum (P := Try.prog) W ⟨#[]⟩ ⟨#[124, 32, 114]⟩ (by rw [h10, h0]; omega); have hXs := hid hXs; replace hXs := hid hXs
      go_wp2_with (go_at_call 61; refine (HD _ hr).mono ?_; rintro en wd ⟨s, rfl, hs, hdc⟩; have kB := fun (W : World) => run_string_add_sum (P := Try.prog) W (⟨#[]⟩ ++ ⟨#[124, 32, 114]⟩) s (by rw [ByteArray.size_append, h10, h0]; omega))
      go_meet
      case rel =>
       obtain ⟨L, e, hL⟩ := asL (⟨#[]⟩ ++ ⟨#[124, 32, 114]⟩ ++ s); exact ⟨L, congrArg Value.string e, hid ⟨by rw [hL]; simp only [ByteArray.size_append, h10, h0]; omega, hcr.out.trans hdc.out (fun _ h => h.elim)⟩⟩
     ·have hx1 : (X == ([] : List UInt8)) = false := by simpa using hx0
      have hx2 : (X != ([] : List UInt8)) = true := by simpa using hx0
      have hx3 : X.isEmpty = false := by simpa using hx0
      have kA := fun (W : World) => run_string_add_sum (P := Try.prog) W ⟨X.toArray⟩ ⟨#[32]⟩ (by rw [h9, szL]; omega); have kA2 := fun (W : World) => run_string_add_sum (P := Try.prog) W (⟨X.toArray⟩ ++ ⟨#[32]⟩) ⟨#[124, 32, 114]⟩ (by rw [ByteArray.size_append, h10, h9, szL]; omega)
      go_wp2_with (go_at_call 61; refine (HD _ hr).mono ?_; rintro en wd ⟨s, rfl, hs, hdc⟩; have kB := fun (W : World) => run_string_add_sum (P := Try.prog) W (⟨X.toArray⟩ ++ ⟨#[32]⟩ ++ ⟨#[124, 32, 114]⟩) s (by rw [ByteArray.size_append, ByteArray.size_append, h10, h9, szL]; omega))
      go_meet
      case rel =>
       obtain ⟨L, e, hL⟩ := asL (⟨X.toArray⟩ ++ ⟨#[32]⟩ ++ ⟨#[124, 32, 114]⟩ ++ s); exact ⟨L, congrArg Value.string e, hid ⟨by rw [hL]; simp only [ByteArray.size_append, h10, h9, szL X]; omega, hcr.out.trans hdc.out (fun _ h => h.elim)⟩⟩
   case rest =>
    obtain ⟨Y, rfl, hY⟩ := hcut; clear hXs hX hcr q0 q1 q2 q3 q4; generalize wc = wy at *
    go_upto_if 99 with (fail)
    go_cut [5] from 98 (fun s5 wx => ∃ Z : ByteArray, s5 = .string Z ∧ Hid (Z.size ≤ ops.length * 1000002 + 1000001030 ∧ Ch (fun _ => False) w1 wx))
    case first =>
     have hYs := hY.out.1
     by_cases hx0 : Y = []
     ·subst hx0
      have hd0 : (⟨#[32, 45, 62, 32]⟩ : ByteArray).size = 4 := rfl
      go_wp2_with fail
      go_meet
      case rel => exact ⟨_, rfl, hid ⟨by rw [hd0]; omega, hY.out.2⟩⟩
     ·have hx1 : (Y == ([] : List UInt8)) = false := by simpa using hx0
      have hx2 : (Y != ([] : List UInt8)) = true := by simpa using hx0
      have hx3 : Y.isEmpty = false := by simpa using hx0
      have hx4 : (!Y.isEmpty) = true := by simp [hx3]
      have h7 : (⟨#[32, 45, 123]⟩ : ByteArray).size = 3 := rfl; have h8 : (⟨#[125, 45, 62, 32]⟩ : ByteArray).size = 4 := rfl; have kA := fun (W : World) => run_string_add_sum (P := Try.prog) W ⟨#[32, 45, 123]⟩ ⟨Y.toArray⟩ (by rw [h7, szL]; omega); have kB := fun (W : World) => run_string_add_sum (P := Try.prog) W (⟨#[32, 45, 123]⟩ ++ ⟨Y.toArray⟩) ⟨#[125, 45, 62, 32]⟩ (by rw [ByteArray.size_append, h7, h8, szL]; omega)
      go_wp2_with fail
      rotate_left
      ·exfalso
       rename_i hq; rw [hx3] at hq; cases hq
      go_meet
      case rel => exact ⟨_, rfl, hid ⟨by simp only [ByteArray.size_append, h7, h8, szL Y]; omega, hY.out.2⟩⟩
    case rest =>
     obtain ⟨Z, rfl, hZ⟩ := hcut; generalize wc = wz at *; have hZs := hZ.out.1; have hqZ := hid (hqW.out.trans hZ.out.2 (fun _ h => .inl h)); replace HT1 := hid (HT1.out.past2 hZ.out.2); replace HT2 := hid (HT2.out.past2 hZ.out.2); replace e0 := hid (cell_keeps hZ.out.2 e0.out); replace e1 := hid (cell_keeps hZ.out.2 e1.out); replace e2 := hid (cell_keeps hZ.out.2 e2.out); replace e3 := hid (cell_keeps hZ.out.2 e3.out); replace e4 := hid (cell_keeps hZ.out.2 e4.out); replace f0 := hid (cell_keeps hZ.out.2 f0.out); replace f1 := hid (cell_keeps hZ.out.2 f1.out); replace f2 := hid (cell_keeps hZ.out.2 f2.out); replace f3 := hid (cell_keeps hZ.out.2 f3.out); replace f4 := hid (cell_keeps hZ.out.2 f4.out); obtain ⟨⟨-, -, -, -, HB4⟩, -⟩ := ty_cells ((hZ.out.2.same _ (Array.getElem?_eq_some_iff.1 hbW.out).1 (fun h => h)).trans hbW.out)
     go_upto_region 34 with (fail)
     have ga := fun w' : World => Hold.cell (w' := w') HB4; have ge0 := fun w' : World => Hold.cell (w' := w') e0.out; have ge1 := fun w' : World => Hold.cell (w' := w') e1.out; have ge2 := fun w' : World => Hold.cell (w' := w') e2.out; have ge3 := fun w' : World => Hold.cell (w' := w') e3.out; have ge4 := fun w' : World => Hold.cell (w' := w') e4.out; have gf0 := fun w' : World => Hold.cell (w' := w') f0.out; have gf1 := fun w' : World => Hold.cell (w' := w') f1.out; have gf2 := fun w' : World => Hold.cell (w' := w') f2.out; have gf3 := fun w' : World => Hold.cell (w' := w') f3.out; have gf4 := fun w' : World => Hold.cell (w' := w') f4.out; have hcc := Ch.drew (fun _ => False) wz; have hS0 := Hold.of hcc; clear HB4; refine wp_region_held_drew (S := (Hold wz)) (by kernel_rfl) (by exact hS0) (fun hHeld => ?_); refine tk 0 rfl ?_; refine tk 1 rfl ?_; refine tk 2 rfl ?_; refine tk 3 rfl ?_; refine tk 5 rfl ?_; refine tk 7 rfl ?_; refine tk 8 rfl ?_; refine tk 9 rfl ?_; refine tk 10 rfl ?_; refine rd1 4 rfl (fun K hK => ?_)
     go_simp
     refine ((in_any HS.out (by exact HP1.out) 1 (by simp) _ os' az' (HT1.out.past2 hcc)).mono ?_); rintro en w2 ⟨s1, rfl, hs1, hc1⟩; have hcc := hcc.trans hc1.out (fun _ h => .inl h); have hS5 := Hold.of hcc; clear hc1
     dsimp only
     have kA := fun (W : World) => run_string_add_sum (P := Try.prog) W s1 Z (by have := HP1.out; omega); clear hHeld; refine gn hK (fun hHeld => ?_); clear hK K; refine tk 6 rfl ?_; refine rd1 11 rfl (fun K hK => ?_)
     go_simp
     refine ((in_any HU.out (by exact HP2.out) 0 (by simp) _ os2 az2 (HT2.out.past2 hcc)).mono ?_); rintro en w3 ⟨s2, rfl, hs2, hc2⟩; have hcc := hcc.trans hc2.out (fun _ h => .inl h); have hS5 := Hold.of hcc; clear hc2
     dsimp only
     have kB := fun (W : World) => run_string_add_sum (P := Try.prog) W (s1 ++ Z) s2 (by have := HP1.out; have := HP2.out; rw [ByteArray.size_append]; omega); clear hHeld; refine gn hK (fun hHeld => ?_); clear hK K; refine tk 12 rfl ?_; refine tk 13 rfl ?_; refine wpAnyH_done (by kernel_rfl) ?_ _; clear hHeld; simp only [Act.put, List.getElem_toArray, List.getElem_cons_zero, List.getElem_cons_succ, List.setIfInBounds_toArray, List.set_cons_zero, List.set_cons_succ]; clear hS5 ga ge0 ge1 ge2 ge3 ge4 gf0 gf1 gf2 gf3 gf4 kA kB; replace hs1 := hid hs1; replace hZs := hid hZs; replace hs2 := hid hs2
     go_wp2_with fail
     go_ret
     exact ⟨_, rfl, by have hs1 := hs1.out; have hZs := hZs.out; have hs2 := hs2.out; have hN := HP1.out; have hN2 := HP2.out; simp only [ByteArray.size_append]; simp only [Ty.P.parts]; omega, hqZ.out.trans hcc (fun _ h => h.elim)⟩
theorem shB_any : ∀ {t : Ty.P}, shB t = true → t.parts ≤ 1000000 → ShowOK t
 | .var n, h, _ => by
  simp only [shB, decide_eq_true_eq] at h
  exact show_var n h.1 h.2
 | .int, _, _ => show_plain _ (.inl rfl)
 | .bool, _, _ => show_plain _ (.inr (.inl rfl))
 | .unit, _, _ => show_plain _ (.inr (.inr rfl))
 | .list a, h, hp => by
  have hp2 : a.parts ≤ 1000000 := by simp only [Ty.P.parts] at hp; omega
  exact show_list (shB_any h hp2) hp2
 | .pair a b, h, hp => by
  have h2 := Bool.and_eq_true_iff.1 h
  have hp1 : a.parts ≤ 1000000 := by simp only [Ty.P.parts] at hp; omega
  have hp2 : b.parts ≤ 1000000 := by simp only [Ty.P.parts] at hp; omega
  exact show_pair (shB_any h2.1 hp1) (shB_any h2.2 hp2) hp1 hp2
 | .fn a b o r, h, hp => by
  simp only [shB, Bool.and_eq_true, decide_eq_true_eq, List.all_eq_true] at h
  obtain ⟨⟨⟨h1, h2⟩, h3⟩, h4⟩ := h
  have hp0 : o.length ≤ 1000000 := by simp only [Ty.P.parts] at hp; omega
  have hp1 : a.parts ≤ 1000000 := by simp only [Ty.P.parts] at hp; omega
  have hp2 : b.parts ≤ 1000000 := by simp only [Ty.P.parts] at hp; omega
  exact show_fn (shB_any h1 hp1) (shB_any h2 hp2) hp1 hp2 h3 hp0 h4
end Go.Proofs.Ytejciampbnfbhaa

namespace Go.Proofs.Ytejciampbnfbhaa
open Go.RowKit Ie
section
variable {w1 w w' w2 : World} {Q : Cc} {K1 K : Ck} {es1 es : Env} {ops : List Opr} {e1 e : E}
theorem CM.store2 {O : Nat → Prop} (h1 : CM w1 Q K1 es1 ops e1) (h : CM w Q K es ops e) (hc : Ch (K1.own Q) w1 w) (hm : More w1 (K1.own Q) (K.own Q)) (hO : ∀ B, O B → w1.heap.size ≤ B ∧ ¬ K.own Q B ∧ ∃ cs T fz, w.heap[B]? = some (.cells cs T fz) ∧ T ≠ 9) (hs : Ch O w w') : CM w' Q K es ops e := by
 have hk : ∀ k, k < w.heap.size → K.own Q k → w'.heap[k]? = w.heap[k]? := fun k hl ho => hs.same k hl (fun e => (hO k e).2.1 ho)
 have hcl := h.lt (.inr (.inl rfl))
 obtain ⟨d, g1, g2⟩ := h.ge
 refine ⟨(hk _ hcl (.inr (.inl rfl))).trans h.blk, ⟨d, g1, g2.apart (O := O) hs (fun k hk ho => (hO k ho).2.1 (.inl hk)) (fun i u k hu hk ho => ?_)⟩, ownsRow_keep h.env (fun k hk2 => hk k (ownsRow_lt h.env hk2) (.inr (.inr hk2))), h.nc, h.ne, fun y hy => ?_, fun w3 h3 => ?_, fun k hk2 => ?_⟩
 ·obtain ⟨-, hn, cs, T, fz, hb, hT⟩ := hO k ho
  exact (out_cells g2 hb hT (fun h => hn (.inl h))).2 i u hu hk
 ·have hy1 := h.nam y hy
  have hy2 : NamOK w (fun k => K.own Q k ∨ O k) y := ⟨hy1.m1, hy1.m2, fun ha => by
   obtain ⟨t, r, e1, e2, s1, s2, o1, o2⟩ := hy1.gen ha
   have hne : ∀ {t : Nat} {S : List Int}, SM w t S → ¬ O t := fun s ho => by
    obtain ⟨es, ck, hb2, _⟩ := s; obtain ⟨-, -, cs, T, fz, hb, -⟩ := hO _ ho; rw [hb] at hb2; cases hb2
   exact ⟨t, r, e1, e2, s1, s2, fun h => h.elim o1 (hne s1), fun h => h.elim o2 (hne s2)⟩⟩
  exact hy2.ch (hs.mono (fun _ h => .inr h)) (fun _ h => .inl (.inl h))
 ·exact h1.ops w3 fun k hl hn => (h3 k (Nat.lt_of_lt_of_le (Nat.lt_of_lt_of_le hl hc.size) hs.size) (hm.not hn hl)).trans ((hs.same k (Nat.lt_of_lt_of_le hl hc.size) (fun ho => by have := (hO k ho).1; omega)).trans (hc.same k hl hn))
 ·obtain ⟨a, b⟩ := h.tf k hk2
  exact ⟨Nat.lt_of_lt_of_le a hs.size, b⟩
theorem CM.start {b c n0 : Nat} {ov : Value} {G : Gg} {F : Nat → Prop} {l : List OD} (hg : GE w b G E.new) (hb : w.heap[c]? = some (ckB b ov)) (hc : ¬ G.own b c) (hO : OM n0 w ov l) (hn : ∀ k, G.own b k ∨ k = c → k < n0) (hF : ∀ k, F k → k < w.heap.size ∧ ¬ G.own b k ∧ k ≠ c) : CM w ⟨c, b, ov, F⟩ ⟨G, .slice none 0 0⟩ [] (l.map (·.1)) E.new :=
 ⟨hb, hg, World.ownsRow_nil _ _ _ _, hc, fun k h => (by cases h), fun x h => (by cases h), fun w' h => hO.opsIn fun k h1 h2 => h k h2 (fun ho => by
  rcases ho with ho | ho | ho
  ·have := hn k (.inl ho); omega
  ·have := hn k (.inr ho); omega
  ·cases ho), fun k hk => ⟨(hF k hk).1, fun ho => by
  rcases ho with ho | ho | ho
  ·exact (hF k hk).2.1 ho
  ·exact (hF k hk).2.2 ho
  ·cases ho⟩⟩
theorem CM.okc (h : CM w Q K es ops e) : Calls Try.prog 26 #[.pointer (some ⟨Q.c, 0, none⟩)] w fun en w' => en = .returned (.bool true) ∧ w' = w := Ok_any h
theorem CM.tell (h : CM w Q K es ops e) (hq : Ch (fun _ => False) w w2) {T R : Nat} (m1 : MI w2 T []) (m2 : MI w2 R []) (hne : T ≠ R) (hT : w.heap.size ≤ T) (hR : w.heap.size ≤ R) {f : Nat} {n : Int} {s : Ty.P × Dg.NM} (hp : Ie.told f f e n ([], []) = some s) :
  Calls Try.prog 32 #[.pointer (some ⟨Q.b, 0, none⟩), .int .i64 n, .agg #[.map (some T), .map (some R)]] w2 fun en w' => ∃ os az, en = .returned (tyV s.1.kind s.1.num s.1.row os az) ∧ Rb w2.heap.size w' s.1 os az ∧ Ch (isTR T R) w2 w' ∧ Ch (fun _ => False) w w' := by
 obtain ⟨d, h1, h2⟩ := (h.quiet hq).ge
 have ho : ∀ k, w.heap.size ≤ k → ¬ K.G.own Q.b k := fun k hk ho => by have := h.lt (.inl ho); omega
 obtain ⟨es1, c1, b1, -⟩ := id m1
 obtain ⟨es2, c2, b2, -⟩ := id m2
 exact (Told_any Q.b T R f f h2 ⟨out_map h2 b1 (ho T hT), out_map h2 b2 (ho R hR), hne, m1, m2⟩ (h1.told hp)).mono fun en w' h => by
  obtain ⟨os, az, h3, h4, -, -, h5⟩ := h
  exact ⟨os, az, h3, h4, h5, hq.old h5 (fun j hj => by rcases hj with e | e <;> omega)⟩
end
abbrev TP := List UInt8 × ByteArray
abbrev tpC (p : TP) : List Value := [str p.1, .string p.2]
def tpsC (l : List TP) : List Value := l.flatMap tpC
theorem Try.infoTyping : (Try.prog.info? 32).map (fun i => (i.zero, i.size, i.bytes)) = some (some (.agg #[.string ⟨#[]⟩, .string ⟨#[]⟩]), 2, 32) := by kernel_rfl
theorem defs_cons {f k : Nat} {ops : List Opr} {d : Sy.Tr} {r : List Sy.Tr} {env : List En} {e : E} {out : List (Un.Nm × Ty.P)} {q : List En × E × List (Un.Nm × Ty.P)} (h : defsE f ops k (d :: r) env e out = some q) :
  ∃ p x s, out.any (fun o => o.1 == d.name) = false ∧ bound f (exprE f ops k) env e d = some p ∧ bigE f p.2 p.1 = some () ∧ general f p.2 env d.name p.1 = some x ∧ told f f p.2 p.1 ([], []) = some s ∧ defsE f ops k r (env ++ [x]) p.2 (out ++ [(d.name, s.1)]) = some q := by
 unfold defsE at h
 split at h
 ·cases h
 ·rename_i hn
  obtain ⟨p, hp, h⟩ := Option.bind_eq_some_iff.1 h
  obtain ⟨u, hu, h⟩ := Option.bind_eq_some_iff.1 h
  obtain ⟨x, hx, h⟩ := Option.bind_eq_some_iff.1 h
  obtain ⟨s, hs, h⟩ := Option.bind_eq_some_iff.1 h
  exact ⟨p, x, s, eq_false_of_ne_true hn, hp, hu, hx, hs, h⟩
theorem defs_mem {f k : Nat} {ops : List Opr} : ∀ {l : List Sy.Tr} {env : List En} {e : E} {out : List (Un.Nm × Ty.P)} {q : List En × E × List (Un.Nm × Ty.P)}, defsE f ops k l env e out = some q → ∀ x ∈ out, x ∈ q.2.2
 | [], env, e, out, q, h, x, hx => by
  unfold defsE at h
  obtain rfl := Option.some.inj h
  exact hx
 | d :: r, env, e, out, q, h, x, hx => by
  obtain ⟨p, y, s, -, -, -, -, -, h2⟩ := defs_cons h
  exact defs_mem h2 x (List.mem_append.2 (.inl hx))
theorem ops_parts {f : Nat} {all : List Un.Nm} : ∀ {l : List Sy.Tr} {o ops : List Opr}, opsOf f all l o = some ops → (∀ x ∈ o, x.ti.parts ≤ 300 ∧ x.to.parts ≤ 300) → (∀ x ∈ ops, x.ti.parts ≤ 300 ∧ x.to.parts ≤ 300) ∧ ops.length = o.length + l.length
 | [], o, ops, h, hx => by
  obtain rfl := Option.some.inj h
  exact ⟨hx, rfl⟩
 | t :: r, o, ops, h, hx => by
  obtain ⟨a, b, l3, x, y, -, -, -, -, -, -, h1, h2, h3⟩ := ops_cons h
  obtain ⟨h4, h5⟩ := ops_parts h3 (fun z hz => by
   rcases List.mem_append.1 hz with hz | hz
   ·exact hx z hz
   ·obtain rfl : z = _ := by simpa using hz
    exact ⟨h1, h2⟩)
  exact ⟨h4, by simp at h5 ⊢; omega⟩
theorem ops_ok {f : Nat} {all : List Un.Nm} {l : List Sy.Tr} {ops : List Opr} (h : opsOf f all l [] = some ops) (hl : l.length < 1000000) : OpsOK ops := by
 obtain ⟨h1, h2⟩ := ops_parts h (fun x hx => by cases hx)
 exact ⟨by simp at h2; omega, h1⟩
end Go.Proofs.Ytejciampbnfbhaa
