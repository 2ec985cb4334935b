/-
  The program's printer: numbers.
  The tokens that the program's printer says: what is left, and the induction.
  The tokens that the program's printer says: handlers, arrows, programs, leaves; the induction.
-/
import Derived.Test.YtoajnlhegallpaaGreatDoorMQa
import Derived.Test.YtoajnlhegallpaaGreatDoorMPm
import Derived.Lib.LaidTab
set_option linter.unusedVariables false
set_option linter.unusedSimpArgs false
set_option maxRecDepth 100000
set_option maxHeartbeats 4000000
namespace Go.Proofs.YtoajnlhegallpaaGreatDoor
open Go.RowKit

theorem dig_dec : ∀ (n : Nat), Sy.dig n = Lib.decDigits n := by
 intro n
 induction n using Nat.strongRecOn with
 | _ n ih =>
  rw [Sy.dig, Lib.decDigits]
  by_cases h : n < 10
  ·rw [dif_pos h, dif_pos h]
  ·rw [dif_neg h, dif_neg h, ih (n / 10) (by omega)]
theorem dig_byte48 : ∀ (n : Nat) (c : UInt8), c ∈ Sy.dig n → 48 ≤ c.toNat := by
 intro n
 induction n using Nat.strongRecOn with
 | _ n ih =>
  intro c hc
  rw [Sy.dig] at hc
  by_cases h : n < 10
  ·rw [dif_pos h] at hc
   simp only [List.mem_singleton] at hc
   subst hc
   have : (48 + n).toUInt8.toNat = 48 + n := by simp [Nat.toUInt8]; omega
   omega
  ·rw [dif_neg h] at hc
   simp only [List.mem_append, List.mem_singleton] at hc
   rcases hc with hc | rfl
   ·exact ih (n / 10) (by omega) c hc
   ·have : (48 + n % 10).toUInt8.toNat = 48 + n % 10 := by simp [Nat.toUInt8]; omega
    omega
theorem below_grow {B : Nat} {a w : World} (h : Below B a w) (hB : B ≤ w.heap.size) (os : Array Obj) : Below B a (Sort.grow w os) :=
 ⟨h.os, h.tape, h.output, by have := h.size; simp [Sort.grow]; omega, fun k hk => by
  rw [← h.block k hk]
  simp only [Sort.grow]
  exact Array.getElem?_append_left (by omega)⟩
theorem itoaP_any (m : Int) (h0 : -9223372036854775808 ≤ m) (h1 : m ≤ 9223372036854775807) (w : World) (ht : TabW w) :
  Calls Tryz.prog 138 #[.int .i64 m] w fun e w' => e = .returned (.string ⟨(Lib.itoa m).toArray⟩) ∧ Hid (Below w.heap.size w w') := by
 refine (Tryz.strconv_Itoa m h0 h1 w ht).mono ?_
 rintro e w' ⟨rfl, k, os, rfl⟩
 exact ⟨rfl, below_grow (below_dn (Below.refl _ _) k) (Nat.le_refl _) os⟩
theorem cut_neg (m : Int) (h : m < 0) : Lib.trimPrefix (Lib.itoa m) [45] = Sy.dig m.natAbs ∧ Lib.hasPrefix (Lib.itoa m) [45] = true := by
 have e : Lib.itoa m = 45 :: Sy.dig m.natAbs := by rw [Lib.itoa, if_pos h, dig_dec]
 have hp : Lib.hasPrefix (Lib.itoa m) [45] = true := by rw [e]; simp [Lib.hasPrefix]
 refine ⟨?_, hp⟩
 rw [Lib.trimPrefix, if_pos hp, e]
 rfl
theorem cut_pos (m : Int) (h : ¬ m < 0) : Lib.trimPrefix (Lib.itoa m) [45] = Sy.dig m.natAbs ∧ Lib.hasPrefix (Lib.itoa m) [45] = false := by
 have e : Lib.itoa m = Sy.dig m.natAbs := by rw [Lib.itoa, if_neg h, dig_dec]; congr 1; omega
 have hp : Lib.hasPrefix (Lib.itoa m) [45] = false := by
  rw [e]
  unfold Lib.hasPrefix
  cases hd : Sy.dig m.natAbs with
  | nil => rfl
  | cons c r =>
   have hc : 48 ≤ c.toNat := dig_byte48 m.natAbs c (by rw [hd]; simp)
   have : ¬ (45 : UInt8) = c := by rintro rfl; simp at hc
   simp [List.isPrefixOf, this]
 refine ⟨?_, hp⟩
 rw [Lib.trimPrefix, hp]
 simpa using e

theorem PPost.after {w w1 : World} {B b : Nat} {l : List (List UInt8)} {e : Ending} {w' : World} (hB : B ≤ w.heap.size) (hb : Below w.heap.size w w1) (h : PPost w1 B b l e w') : PPost w B b l e w' :=
 ⟨h.1, h.2.1, (hb.mono hB).trans h.2.2.1.out, (oth_past hb).trans h.2.2.2.out⟩

theorem number_any (B b : Nat) (m : Int) (h0 : -9223372036854775808 ≤ m) (h1 : m ≤ 9223372036854775807) : ∀ (w : World) (l : List (List UInt8)), B ≤ w.heap.size → TabW w → PrAt B b l w → l.length + (numTk m).length ≤ 900000 →
  Calls Tryz.prog 121 #[.pointer (some ⟨b, 0, none⟩), .int .i64 m] w fun e w' => PPost w B b (l ++ numTk m) e w' := by
 intro w l hB ht hp hl
 have HP := hid hp
 have HI := hid (itoaP_any m h0 h1 w ht)
 have HC : Hid (∀ (W : World), Calls Tryz.prog 137 #[.string ⟨(Lib.itoa m).toArray⟩, .string ⟨#[45]⟩] W fun e w' => e = .returned (.tuple #[.string ⟨(Sy.dig m.natAbs).toArray⟩, .bool (decide (m < 0))]) ∧ w' = W) := by
  intro W
  have hc := Tryz.strings_CutPrefix ⟨(Lib.itoa m).toArray⟩ ⟨#[45]⟩ W
  by_cases hm : m < 0
  ·obtain ⟨e1, e2⟩ := cut_neg m hm
   simp only [e1, e2] at hc
   simpa [hm] using hc
  ·obtain ⟨e1, e2⟩ := cut_pos m hm
   simp only [e1, e2] at hc
   simpa [hm] using hc
 generalize Lib.itoa m = y at HI HC
 have hnt : numTk m = if m < 0 then [[126], Sy.dig m.natAbs] else [Sy.dig m.natAbs] := rfl
 rw [hnt] at hl ⊢
 clear hnt
 generalize Sy.dig m.natAbs = z at HC hl ⊢
 clear hp ht
 by_cases hm : m < 0
 ·rw [if_pos hm] at hl ⊢
  have hl2 : l.length + 2 ≤ 900000 := by simpa using hl
  have ed : decide (m < 0) = true := by simp [hm]
  rw [ed] at HC
  clear ed hl
  go_enter Tryz.func121, Tryz.ntmps121
  go_wp2_with (first
   | (go_at_call 138; refine HI.out.mono ?_; rintro e w1 ⟨rfl, HB1⟩)
   | (go_at_call 137; refine (HC.out _).mono ?_; rintro e w2 ⟨rfl, rfl⟩)
   | fail)
  have hB1 : B ≤ w2.heap.size := Nat.le_trans hB HB1.out.size
  have HP1 := hid (pr_past HP.out HB1.out)
  refine (sayr1 HP1.out hB1 [126] (by omega)).mono ?_
  rintro e w3 ⟨rfl, P1, P2, P3⟩
  have hB3 : B ≤ w3.heap.size := Nat.le_trans hB1 P2.out.size
  go_wp2_with fail
  refine (sayr1 P1.out hB3 z (by simp only [List.length_append, List.length_cons, List.length_nil]; omega)).mono ?_
  rintro e w4 ⟨rfl, R1, R2, R3⟩
  go_wp2_with fail
  go_end0
  refine PPost.after hB HB1.out ⟨rfl, ?_, P2.out.trans R2.out, P3.out.trans R3.out⟩
  have : l ++ [[126], z] = l ++ [[126]] ++ [z] := by simp
  rw [this]
  exact R1
 ·rw [if_neg hm] at hl ⊢
  have hl2 : l.length + 1 ≤ 900000 := by simpa using hl
  have ed : decide (m < 0) = false := by simp [hm]
  rw [ed] at HC
  clear ed hl
  go_enter Tryz.func121, Tryz.ntmps121
  go_wp2_with (first
   | (go_at_call 138; refine HI.out.mono ?_; rintro e w1 ⟨rfl, HB1⟩)
   | (go_at_call 137; refine (HC.out _).mono ?_; rintro e w2 ⟨rfl, rfl⟩)
   | fail)
  have hB1 : B ≤ w2.heap.size := Nat.le_trans hB HB1.out.size
  have HP1 := hid (pr_past HP.out HB1.out)
  refine (sayr1 HP1.out hB1 z (by omega)).mono ?_
  rintro e w3 ⟨rfl, P1, P2, P3⟩
  go_wp2_with fail
  go_end0
  exact PPost.after hB HB1.out ⟨rfl, P1, P2, P3⟩

open Go.RowKit
open Sy (Tr)

theorem prn_rec {n : Nat} (h : PrOK n) (p : Nat) (x : List UInt8) (f a b : Tr) (hfa : f.kids = [a]) (ha : Wp n a) (hb : Wp n b) (w0 : World) (v : Value) (B b0 : Nat) (hT : TabW w0) (hB : w0.heap.size ≤ B) (hk : Ki w0 v [f, b]) :
  BP w0 B b0 (nodeV (.mk 9 p x 1 [f, b]) v) (([[108, 101, 116]] ++ [[114, 101, 99]] ++ [x] ++ [f.name] ++ ([61] :: tk n a)) ++ ([105, 110] :: tk n b)) := by
 obtain ⟨g, o, cap, ks, rfl, hcap, hg, hcell, hkk⟩ := hk.cells (by simp)
 have hf := hkk 0 (by simp)
 simp only [List.getElem_cons_zero] at hf
 rw [hfa] at hf
 obtain ⟨g1, o1, cap1, ks1, hv1, hcap1, hg1, hcell1, hkk1⟩ := hf.cells (by simp)
 obtain ⟨va, vc, hv⟩ := (hkk1 0 (by simp)).slice
 exact pk_elet w0 B b0 p 1 x g o cap b.kind b.pos ⟨b.name.toArray⟩ b.num (ks 1) _ _ hB hg hcap (by simpa using hcell 1 (by simp))
  (pb_rec w0 B b0 p x [108, 101, 116] g o cap f.kind f.pos f.name f.num g1 o1 cap1 a.kind a.pos ⟨a.name.toArray⟩ a.num va _ vc _ hB hg hcap hg1 hcap1 (by have := hcell 0 (by simp); rw [hv1] at this; simpa using this) (by rw [← hv]; simpa using hcell1 0 (by simp)) (by rw [← hv]; exact (wp_ok0 h ha hT hB (hkk1 0 (by simp)))))
  (wp_ok0 h hb hT hB (hkk 1 (by simp)))

theorem prn_item {n : Nat} (h : PrOK n) (q : Tr) (hq : (q.kind = 1 ∧ ∃ a b, q.kids = [a, b] ∧ Wp n a ∧ Wp n b) ∨ (q.kind = 2 ∧ ∃ f a, q.kids = [f] ∧ f.kind = 7 ∧ f.kids = [a] ∧ Wp n a)) (w0 : World) (v : Value) (B b0 : Nat) (hT : TabW w0) (hB : w0.heap.size ≤ B) (hk : Ki w0 v q.kids) :
  BP w0 B b0 (nodeV q v) (itemTk (tk n) q) := by
 obtain ⟨k, p, x, m, kids⟩ := q
 replace hq : (k = 1 ∧ ∃ a b, kids = [a, b] ∧ Wp n a ∧ Wp n b) ∨ (k = 2 ∧ ∃ f a, kids = [f] ∧ f.kind = 7 ∧ f.kids = [a] ∧ Wp n a) := hq
 replace hk : Ki w0 v kids := hk
 rcases hq with ⟨rfl, a, b, rfl, ha, hb⟩ | ⟨rfl, f, a, rfl, hf7, hfa, ha⟩
 ·obtain ⟨g, o, cap, ks, rfl, hcap, hg, hcell, hkk⟩ := hk.cells (by simp)
  by_cases hm : m = 1
  ·subst hm
   exact bd_1 w0 B b0 p 1 x _ _ _ _ hB (pk_once w0 B b0 p x g o cap a.kind a.pos ⟨a.name.toArray⟩ a.num (ks 0) b.kind b.pos ⟨b.name.toArray⟩ b.num (ks 1) _ _ hB hg hcap (by simpa using hcell 0 (by simp)) (by simpa using hcell 1 (by simp)) (wp_ok0 h ha hT hB (hkk 0 (by simp))) (wp_ok0 h hb hT hB (hkk 1 (by simp))))
  ·have e : itemTk (tk n) (.mk 1 p x m [a, b]) = [[111, 112]] ++ [[109, 97, 110, 121]] ++ [x] ++ ([58] :: tk n a) ++ ([61, 62] :: tk n b) := by
    simp [itemTk, Tr.kind, Tr.num, Tr.name, Tr.kids, hm]
   rw [e]
   exact bd_1 w0 B b0 p m x _ _ _ _ hB (pk_many w0 B b0 p m x g o cap a.kind a.pos ⟨a.name.toArray⟩ a.num (ks 0) b.kind b.pos ⟨b.name.toArray⟩ b.num (ks 1) _ _ hB hg hcap (by simpa using hcell 0 (by simp)) (by simpa using hcell 1 (by simp)) (wp_ok0 h ha hT hB (hkk 0 (by simp))) (wp_ok0 h hb hT hB (hkk 1 (by simp))) hm)
 ·obtain ⟨g, o, cap, ks, rfl, hcap, hg, hcell, hkk⟩ := hk.cells (by simp)
  have hf := hkk 0 (by simp)
  simp only [List.getElem_cons_zero] at hf
  rw [hfa] at hf
  obtain ⟨g1, o1, cap1, ks1, hv1, hcap1, hg1, hcell1, hkk1⟩ := hf.cells (by simp)
  obtain ⟨va, vc, hv⟩ := (hkk1 0 (by simp)).slice
  replace hv : ks1 0 = Value.slice va a.kids.length vc := hv
  have hk0 : kid0 f = a := by simp [kid0, hfa]
  have E0 : Nod w0 g o f.kind f.pos ⟨f.name.toArray⟩ f.num (.slice (some ⟨g1, o1, none⟩) 1 cap1) := by
   have := hcell 0 (by simp); rw [hv1] at this; simpa using this
  have E1 : Nod w0 g1 o1 a.kind a.pos ⟨a.name.toArray⟩ a.num (.slice va a.kids.length vc) := by rw [← hv]; simpa using hcell1 0 (by simp)
  have W1 : WP w0 B b0 (Value.agg #[.int .i64 a.kind, .int .i64 a.pos, .string ⟨a.name.toArray⟩, .int .i64 a.num, .slice va a.kids.length vc]) 0 (tk n a) := by rw [← hv]; exact (wp_ok0 h ha hT hB (hkk1 0 (by simp)))
  by_cases hm : m = 1
  ·subst hm
   have e : itemTk (tk n) (.mk 2 p x 1 [f]) = [[100, 101, 102]] ++ [[114, 101, 99]] ++ [x] ++ [f.name] ++ ([61] :: tk n a) := by
    have : itemTk (tk n) (.mk 2 p x 1 [f]) = [[100, 101, 102]] ++ [[114, 101, 99]] ++ [x] ++ [f.name] ++ ([61] :: tk n (kid0 f)) := rfl
    rw [this, hk0]
   rw [e]
   exact pk_dlet w0 B b0 p 1 x _ _ _ _ hB (pb_defrec w0 B b0 p x [100, 101, 102] g o cap f.kind f.pos f.name f.num g1 o1 cap1 a.kind a.pos ⟨a.name.toArray⟩ a.num va _ vc _ hB hg hcap hg1 hcap1 E0 E1 W1)
  ·have e : itemTk (tk n) (.mk 2 p x m [f]) = [[100, 101, 102]] ++ [x] ++ [f.name] ++ ([61] :: tk n a) := by
    have : itemTk (tk n) (.mk 2 p x m [f]) = if m = 1 then [[100, 101, 102]] ++ [[114, 101, 99]] ++ [x] ++ [f.name] ++ ([61] :: tk n (kid0 f)) else [[100, 101, 102]] ++ [x] ++ [f.name] ++ ([61] :: tk n (kid0 f)) := rfl
    rw [this, if_neg hm, hk0]
   rw [e]
   exact pk_dlet w0 B b0 p m x _ _ _ _ hB (pb_def w0 B b0 p m x [100, 101, 102] g o cap f.kind f.pos f.name f.num g1 o1 cap1 a.kind a.pos ⟨a.name.toArray⟩ a.num va _ vc _ hB hg hcap hg1 hcap1 E0 E1 W1 hm)

theorem prn_clause {n : Nat} (h : PrOK n) (q : Tr) (hq : q.kind = 22 ∧ ∃ x y z, q.kids = [x, y, z] ∧ Wp n z) (w0 : World) (v : Value) (B b0 : Nat) (hT : TabW w0) (hB : w0.heap.size ≤ B) (hk : Ki w0 v q.kids) :
  BP w0 B b0 (nodeV q v) (clauseTk (tk n) q) := by
 obtain ⟨k, p, x, m, kids⟩ := q
 replace hq : k = 22 ∧ ∃ x y z, kids = [x, y, z] ∧ Wp n z := hq
 replace hk : Ki w0 v kids := hk
 obtain ⟨rfl, a, b, c, rfl, hc⟩ := hq
 obtain ⟨g, o, cap, ks, rfl, hcap, hg, hcell, hkk⟩ := hk.cells (by simp)
 exact pk_cop w0 B b0 p m x g o cap a.kind a.pos ⟨a.name.toArray⟩ a.num (ks 0) b.kind b.pos ⟨b.name.toArray⟩ b.num (ks 1) c.kind c.pos ⟨c.name.toArray⟩ c.num (ks 2) a.name rfl b.name rfl _ hB hg hcap (by simpa using hcell 0 (by simp)) (by simpa using hcell 1 (by simp)) (by simpa using hcell 2 (by simp)) (wp_ok0 h hc hT hB (hkk 2 (by simp)))

theorem prn_return {n : Nat} (h : PrOK n) (r e : Tr) (hr : r.kind = 21) (he : r.kids = [e]) (hw : Wp n e) (w0 : World) (v : Value) (B b0 : Nat) (hT : TabW w0) (hB : w0.heap.size ≤ B) (hk : Ki w0 v r.kids) :
  BP w0 B b0 (nodeV r v) ([[114, 101, 116, 117, 114, 110], r.name] ++ ([61, 62] :: tk n e)) := by
 obtain ⟨k, p, x, m, kids⟩ := r
 replace hr : k = 21 := hr
 replace he : kids = [e] := he
 replace hk : Ki w0 v kids := hk
 subst hr he
 obtain ⟨g, o, cap, ks, rfl, hcap, hg, hcell, hkk⟩ := hk.cells (by simp)
 exact pk_return w0 B b0 p m x g o cap e.kind e.pos ⟨e.name.toArray⟩ e.num (ks 0) _ hB hg hcap (by simpa using hcell 0 (by simp)) (wp_ok0 h hw hT hB (hkk 0 (by simp)))

open Go.RowKit
open Sy (Tr)

theorem kid_at {w : World} {l : List Tr} {ks : Nat → Value} (hkk : ∀ i (h : i < l.length), Ki w (ks i) l[i].kids) : ∃ (va : Nat → Option Addr) (vl vc : Nat → Nat), ∀ i (_h : i < l.length), ks i = .slice (va i) (vl i) (vc i) := by
 have h1 : ∀ i, ∃ s : Option Addr × Nat × Nat, i < l.length → ks i = .slice s.1 s.2.1 s.2.2 := by
  intro i
  by_cases hi : i < l.length
  ·obtain ⟨a, c, h⟩ := (hkk i hi).slice
   exact ⟨(a, _, c), fun _ => h⟩
  ·exact ⟨(none, 0, 0), fun h => absurd h hi⟩
 exact ⟨fun i => (h1 i).choose.1, fun i => (h1 i).choose.2.1, fun i => (h1 i).choose.2.2, fun i hi => (h1 i).choose_spec hi⟩

theorem prn_handle {n : Nat} (h : PrOK n) (p : Nat) (x : List UInt8) (m : Int) (a r e : Tr) (cs : List Tr) (hns : (a :: r :: cs).length ≤ 90000) (ha : Wp n a) (hr : r.kind = 21) (hre : r.kids = [e]) (he : Wp n e) (hcs : ∀ q ∈ cs, q.kind = 22 ∧ ∃ x y z, q.kids = [x, y, z] ∧ Wp n z) (w0 : World) (v : Value) (B b0 : Nat) (hT : TabW w0) (hB : w0.heap.size ≤ B) (hk : Ki w0 v (a :: r :: cs)) :
  BP w0 B b0 (nodeV (.mk 20 p x m (a :: r :: cs)) v) (((if m = 1 then [115, 104, 97, 108, 108, 111, 119] else [104, 97, 110, 100, 108, 101]) :: tk n a) ++ [[119, 105, 116, 104]] ++ ([123] :: ([[114, 101, 116, 117, 114, 110], r.name] ++ ([61, 62] :: tk n e))) ++ cs.flatMap (fun q => [124] :: clauseTk (tk n) q) ++ [[125]]) := by
 obtain ⟨g, o, cap, ks, rfl, hcap, hg, hcell, hkk⟩ := hk.cells (by simp)
 obtain ⟨va, vl, vc, hv⟩ := kid_at hkk
 have E0 : Nod w0 g o a.kind a.pos ⟨a.name.toArray⟩ a.num (ks 0) := by have := hcell 0 (by simp); rw [Nat.zero_mul, Nat.add_zero] at this; exact this
 have E1 : Nod w0 g (o + 5) r.kind r.pos ⟨r.name.toArray⟩ r.num (ks 1) := by have := hcell 1 (by simp); rw [Nat.one_mul] at this; exact this
 have W0 : WP w0 B b0 (nodeV a (ks 0)) 0 (tk n a) := wp_ok0 h ha hT hB (hkk 0 (by simp))
 have W1 : WP w0 B b0 (nodeV r (ks 1)) 0 ([[114, 101, 116, 117, 114, 110], r.name] ++ ([61, 62] :: tk n e)) := wp_bp hB (hkk 1 (by simp)) (prn_return h r e hr hre he w0 _ B b0 hT hB (hkk 1 (by simp)))
 have hlen : (a :: r :: cs).length = cs.length + 2 := by simp
 by_cases hc2 : cap = 2
 ·have hcs0 : cs = [] := List.eq_nil_of_length_eq_zero (by omega)
  subst hcs0 hc2
  rw [List.flatMap_nil, List.append_nil]
  by_cases hm : m = 1
  ·subst hm
   exact bd_20 w0 B b0 p 1 x _ _ _ _ hB (hand_A1 w0 B b0 p x g o a.kind a.pos ⟨a.name.toArray⟩ a.num (ks 0) r.kind r.pos ⟨r.name.toArray⟩ r.num (ks 1) _ _ hB hg E0 E1 W0 W1)
  ·rw [if_neg hm]
   exact bd_20 w0 B b0 p m x _ _ _ _ hB (hand_A0 w0 B b0 p m x g o a.kind a.pos ⟨a.name.toArray⟩ a.num (ks 0) r.kind r.pos ⟨r.name.toArray⟩ r.num (ks 1) _ _ hB hg hm E0 E1 W0 W1)
 ·have hN : ∀ j (h : j < cs.length), Nod w0 g (o + 10 + j * 5) cs[j].kind cs[j].pos ⟨cs[j].name.toArray⟩ cs[j].num (.slice (va (j + 2)) (vl (j + 2)) (vc (j + 2))) ∧ WP w0 B b0 (.agg #[.int .i64 cs[j].kind, .int .i64 cs[j].pos, .string ⟨cs[j].name.toArray⟩, .int .i64 cs[j].num, .slice (va (j + 2)) (vl (j + 2)) (vc (j + 2))]) 0 (clauseTk (tk n) cs[j]) := by
   intro j hj
   have hj2 : j + 2 < (a :: r :: cs).length := by omega
   have e1 := hcell (j + 2) hj2
   have e2 := hkk (j + 2) hj2
   have e3 := hv (j + 2) hj2
   simp only [List.getElem_cons_succ] at e1 e2
   rw [show o + (j + 2) * 5 = o + 10 + j * 5 by omega] at e1
   rw [← e3]
   refine ⟨e1, wp_bp hB e2 (prn_clause h _ (hcs _ (List.getElem_mem hj)) w0 _ B b0 hT hB e2)⟩
  by_cases hm : m = 1
  ·subst hm
   exact bd_20 w0 B b0 p 1 x _ _ _ _ hB (hand_B1 w0 B b0 p x g o cap _ cs.length cs (fun j => va (j + 2)) (fun j => vl (j + 2)) (fun j => vc (j + 2)) (clauseTk (tk n)) a.kind a.pos ⟨a.name.toArray⟩ a.num (ks 0) r.kind r.pos ⟨r.name.toArray⟩ r.num (ks 1) _ _ hB hg rfl hlen (by omega) hcap hc2 E0 E1 W0 W1 hN)
  ·rw [if_neg hm]
   exact bd_20 w0 B b0 p m x _ _ _ _ hB (hand_B0 w0 B b0 p m x g o cap _ cs.length cs (fun j => va (j + 2)) (fun j => vl (j + 2)) (fun j => vc (j + 2)) (clauseTk (tk n)) a.kind a.pos ⟨a.name.toArray⟩ a.num (ks 0) r.kind r.pos ⟨r.name.toArray⟩ r.num (ks 1) _ _ hB hg rfl hlen (by omega) hcap hc2 hm E0 E1 W0 W1 hN)

theorem prn_arrow {n : Nat} (h : PrOK n) (p : Nat) (x : List UInt8) (m : Int) (a b : Tr) (ns : List Tr) (hns : (a :: b :: ns).length ≤ 90000) (ha : Wp n a) (hb : Wp n b) (w0 : World) (v : Value) (B b0 : Nat) (hT : TabW w0) (hB : w0.heap.size ≤ B) (hk : Ki w0 v (a :: b :: ns)) :
  BP w0 B b0 (nodeV (.mk 29 p x m (a :: b :: ns)) v) (inP (tk n) a 1 ++ arrTk (ns.map Tr.name) ++ tk n b) := by
 obtain ⟨g, o, cap, ks, rfl, hcap, hg, hcell, hkk⟩ := hk.cells (by simp)
 obtain ⟨va, vl, vc, hv⟩ := kid_at hkk
 have E0 : Nod w0 g o a.kind a.pos ⟨a.name.toArray⟩ a.num (ks 0) := by have := hcell 0 (by simp); rw [Nat.zero_mul, Nat.add_zero] at this; exact this
 have E1 : Nod w0 g (o + 5) b.kind b.pos ⟨b.name.toArray⟩ b.num (ks 1) := by have := hcell 1 (by simp); rw [Nat.one_mul] at this; exact this
 have W0 : WP w0 B b0 (nodeV a (ks 0)) 1 (inP (tk n) a 1) := wp_ok h ha hT hB (hkk 0 (by simp)) 1
 have W1 : WP w0 B b0 (nodeV b (ks 1)) 0 (tk n b) := wp_ok0 h hb hT hB (hkk 1 (by simp))
 have hlen : (a :: b :: ns).length = (ns.map Tr.name).length + 2 := by simp
 by_cases hc2 : cap = 2
 ·have hcs0 : ns = [] := List.eq_nil_of_length_eq_zero (by simp at hlen; simp at hcap; omega)
  subst hcs0 hc2
  exact bd_29 w0 B b0 p m x _ _ _ _ hB (pk_yfnA w0 B b0 p m x g o a.kind a.pos ⟨a.name.toArray⟩ a.num (ks 0) b.kind b.pos ⟨b.name.toArray⟩ b.num (ks 1) _ _ hB hg E0 E1 W0 W1)
 ·have hN : ∀ j (h : j < (ns.map Tr.name).length), ∃ (k p m : Int) (va : Option Addr) (vl vc : Nat), Nod w0 g (o + 10 + j * 5) k p ⟨(ns.map Tr.name)[j].toArray⟩ m (.slice va vl vc) := by
   intro j hj
   have hj0 : j < ns.length := by simpa using hj
   have hj2 : j + 2 < (a :: b :: ns).length := by simp; omega
   have e1 := hcell (j + 2) hj2
   have e3 := hv (j + 2) hj2
   simp only [List.getElem_cons_succ] at e1
   rw [show o + (j + 2) * 5 = o + 10 + j * 5 by omega, e3] at e1
   have eg : (ns.map Tr.name)[j] = ns[j].name := List.getElem_map ..
   exact ⟨ns[j].kind, ns[j].pos, ns[j].num, va (j + 2), vl (j + 2), vc (j + 2), by rw [eg]; exact e1⟩
  exact bd_29 w0 B b0 p m x _ _ _ _ hB (pk_yfnB w0 B b0 p m x g o cap _ (ns.map Tr.name) a.kind a.pos ⟨a.name.toArray⟩ a.num (ks 0) b.kind b.pos ⟨b.name.toArray⟩ b.num (ks 1) _ _ hB hg hlen (by simp at hns ⊢; omega) hcap hc2 E0 E1 hN W0 W1)

theorem prn_prog {n : Nat} (h : PrOK n) (p : Nat) (x : List UInt8) (m : Int) (its : List Tr) (mn : Tr) (hns : (its ++ [mn]).length ≤ 90000) (hmn : Wp n mn) (hi : ∀ q ∈ its, (q.kind = 1 ∧ ∃ a b, q.kids = [a, b] ∧ Wp n a ∧ Wp n b) ∨ (q.kind = 2 ∧ ∃ f a, q.kids = [f] ∧ f.kind = 7 ∧ f.kids = [a] ∧ Wp n a)) (w0 : World) (v : Value) (B b0 : Nat) (hT : TabW w0) (hB : w0.heap.size ≤ B) (hk : Ki w0 v (its ++ [mn])) :
  BP w0 B b0 (nodeV (.mk 0 p x m (its ++ [mn])) v) (its.flatMap (itemTk (tk n)) ++ [[109, 97, 105, 110]] ++ ([61] :: tk n mn)) := by
 obtain ⟨g, o, cap, ks, rfl, hcap, hg, hcell, hkk⟩ := hk.cells (by simp)
 obtain ⟨va, vl, vc, hv⟩ := kid_at hkk
 have hlen : (its ++ [mn]).length = its.length + 1 := by simp
 have hN : ∀ j (h : j < its.length), Nod w0 g (o + j * 5) its[j].kind its[j].pos ⟨its[j].name.toArray⟩ its[j].num (.slice (va j) (vl j) (vc j)) ∧ WP w0 B b0 (.agg #[.int .i64 its[j].kind, .int .i64 its[j].pos, .string ⟨its[j].name.toArray⟩, .int .i64 its[j].num, .slice (va j) (vl j) (vc j)]) 0 (itemTk (tk n) its[j]) := by
  intro j hj
  have hj2 : j < (its ++ [mn]).length := by omega
  have e1 := hcell j hj2
  have e2 := hkk j hj2
  have e3 := hv j hj2
  rw [← e3]
  have eg : (its ++ [mn])[j] = its[j] := List.getElem_append_left hj
  rw [eg] at e1 e2
  exact ⟨e1, wp_bp hB e2 (prn_item h _ (hi _ (List.getElem_mem hj)) w0 _ B b0 hT hB e2)⟩
 have hj2 : its.length < (its ++ [mn]).length := by omega
 have e1 := hcell its.length hj2
 have e2 := hkk its.length hj2
 have e3 := hv its.length hj2
 have eg : (its ++ [mn])[its.length] = mn := by simp
 rw [eg] at e1 e2
 exact bd_0 w0 B b0 p m x _ _ _ _ hB (progP_any w0 B b0 p m x g o cap _ its.length its va vl vc (itemTk (tk n)) (tk n mn) mn hB hg rfl hlen (by omega) hcap hN (by rw [← e3]; exact e1) (by rw [← e3]; exact wp_ok0 h hmn hT hB e2))

theorem prn_leaf (k p : Nat) (x : List UInt8) (m : Int) (hk : k = 4 ∨ k = 5 ∨ k = 6 ∨ k = 23 ∨ k = 15 ∨ k = 24 ∨ k = 25 ∨ k = 26) (w0 : World) (va : Option Addr) (vl vc : Nat) (B b0 : Nat) (hB : w0.heap.size ≤ B) :
  BP w0 B b0 (nodeV (.mk k p x m []) (.slice va vl vc)) (leafTk k m x) := by
 rcases hk with rfl | rfl | rfl | rfl | rfl | rfl | rfl | rfl
 ·exact bd_4 w0 B b0 p m x va vl vc _ hB (ps_ebool w0 B b0 p m x va vl vc hB)
 ·exact bd_5 w0 B b0 p m x va vl vc _ hB (ps_unit w0 B b0 p m x va vl vc hB)
 ·exact bd_6 w0 B b0 p m x va vl vc _ hB (ps_var w0 B b0 p m x va vl vc hB)
 ·exact bd_23 w0 B b0 p m x va vl vc _ hB (ps_pname w0 B b0 p m x va vl vc hB)
 ·exact bd_15 w0 B b0 p m x va vl vc _ hB (ps_nil w0 B b0 p m x va vl vc hB)
 ·exact bd_24 w0 B b0 p m x va vl vc _ hB (ps_int w0 B b0 p m x va vl vc hB)
 ·exact bd_25 w0 B b0 p m x va vl vc _ hB (ps_bool w0 B b0 p m x va vl vc hB)
 ·exact bd_26 w0 B b0 p m x va vl vc _ hB (ps_yunit w0 B b0 p m x va vl vc hB)
theorem prn_int (p : Nat) (x : List UInt8) (m : Int) (h0 : -9223372036854775807 ≤ m) (h1 : m ≤ 9223372036854775807) (w0 : World) (va : Option Addr) (vl vc : Nat) (B b0 : Nat) (hT : TabW w0) (hB : w0.heap.size ≤ B) :
  BP w0 B b0 (nodeV (.mk 3 p x m []) (.slice va vl vc)) (numTk m) :=
 bd_3 w0 B b0 p m x va vl vc _ hB (ps_eint w0 B b0 p m x va vl vc _ hB (fun w l hBw hn hp hl => number_any B b0 m (by omega) h1 w l hBw (hT.past hn) hp hl))

theorem prn_any : ∀ n, PrOK n := by
 intro n
 induction n with
 | zero => intro t ht; exact ht.elim
 | succ n ih =>
  intro t ht w0 v B b0 hT hB hk
  obtain ⟨k, p, x, m, kids⟩ := t
  obtain ⟨hx, ht⟩ := ht
  replace hk : Ki w0 v kids := hk
  rcases ht with ⟨e1, ht⟩ | ⟨e1, e2, h1, h2⟩ | ⟨hkk, a, e1, _, ha⟩ | ⟨hkk, a, b, e1, _, ha, hb⟩ | ⟨e1, e2, f, a, b, e3, hf, hfa, ha, hb⟩ | ⟨e1, a, b, c, e2, ha, hb, hc⟩ | ⟨e1, a, b, c, d, e, e2, hc, hd, ha, hb, he⟩ | ⟨e1, hns, a, r, e, cs, e2, hr, hre, ha, he, hcs⟩ | ⟨e1, hns, a, b, ns, e2, ha, hb⟩ | ⟨e1, hns, its, mn, e2, _, _, hmn, hi⟩
  ·replace e1 : kids = [] := e1
   subst e1
   obtain ⟨a, c, rfl⟩ := hk.slice
   have e : tk (n + 1) (.mk k p x m []) = leafTk k m x := by
    replace ht : k = 4 ∨ k = 5 ∨ k = 6 ∨ k = 23 ∨ k = 15 ∨ k = 24 ∨ k = 25 ∨ k = 26 := ht
    rcases ht with rfl | rfl | rfl | rfl | rfl | rfl | rfl | rfl <;> rfl
   rw [e]
   exact prn_leaf k p x m ht w0 a _ c B b0 hB
  ·replace e1 : kids = [] := e1
   replace e2 : k = 3 := e2
   subst e1 e2
   obtain ⟨a, c, rfl⟩ := hk.slice
   exact prn_int p x m h1 h2 w0 a _ c B b0 hT hB
  ·replace e1 : kids = [a] := e1
   subst e1
   replace hkk : k = 7 ∨ k = 13 ∨ k = 14 ∨ k = 19 ∨ k = 27 := hkk
   rcases hkk with rfl | rfl | rfl | rfl | rfl
   ·exact prn_fn ih p x m a ha w0 v B b0 hT hB hk
   ·exact prn_fst ih p x m a ha w0 v B b0 hT hB hk
   ·exact prn_snd ih p x m a ha w0 v B b0 hT hB hk
   ·exact prn_do ih p x m a ha w0 v B b0 hT hB hk
   ·exact prn_ylist ih p x m a ha w0 v B b0 hT hB hk
  ·replace e1 : kids = [a, b] := e1
   subst e1
   replace hkk : k = 8 ∨ (k = 9 ∧ m ≠ 1) ∨ k = 10 ∨ k = 12 ∨ k = 16 ∨ (k = 18 ∧ (x = [43] ∨ x = [45] ∨ x = [42] ∨ x = [60] ∨ x = [61, 61])) ∨ k = 28 := hkk
   rcases hkk with rfl | ⟨rfl, hm⟩ | rfl | rfl | rfl | ⟨rfl, hs⟩ | rfl
   ·exact prn_app ih p x m a b ha hb w0 v B b0 hT hB hk
   ·have e : tk (n + 1) (.mk 9 p x m [a, b]) = ([[108, 101, 116]] ++ [x] ++ ([61] :: tk n a)) ++ ([105, 110] :: tk n b) := by
     have : tk (n + 1) (.mk 9 p x m [a, b]) = if m = 1 then ([[108, 101, 116]] ++ [[114, 101, 99]] ++ [x] ++ [a.name] ++ ([61] :: tk n (kid0 a))) ++ ([105, 110] :: tk n b) else ([[108, 101, 116]] ++ [x] ++ ([61] :: tk n a)) ++ ([105, 110] :: tk n b) := rfl
     rw [this, if_neg hm]
    rw [e]
    exact prn_let ih p x m a b ha hb hm w0 v B b0 hT hB hk
   ·exact prn_seq ih p x m a b ha hb w0 v B b0 hT hB hk
   ·exact prn_pair ih p x m a b ha hb w0 v B b0 hT hB hk
   ·exact prn_cons ih p x m a b ha hb w0 v B b0 hT hB hk
   ·have e : tk (n + 1) (.mk 18 p x m [a, b]) = opTk x (tk n) a b := rfl
    rw [e]
    rcases hs with hs | hs | hs | hs | hs
    ·have e : opTk x (tk n) a b = inP (tk n) a 3 ++ [x] ++ inP (tk n) b 4 := by rw [hs]; rfl
     rw [e]; exact prn_plus ih p x m a b ha hb hs w0 v B b0 hT hB hk
    ·have e : opTk x (tk n) a b = inP (tk n) a 3 ++ [x] ++ inP (tk n) b 4 := by rw [hs]; rfl
     rw [e]; exact prn_minus ih p x m a b ha hb hs w0 v B b0 hT hB hk
    ·have e : opTk x (tk n) a b = inP (tk n) a 4 ++ [x] ++ inP (tk n) b 5 := by rw [hs]; rfl
     rw [e]; exact prn_star ih p x m a b ha hb hs w0 v B b0 hT hB hk
    ·have e : opTk x (tk n) a b = inP (tk n) a 2 ++ [x] ++ inP (tk n) b 2 := by rw [hs]; rfl
     rw [e]; exact prn_lt ih p x m a b ha hb hs w0 v B b0 hT hB hk
    ·have e : opTk x (tk n) a b = inP (tk n) a 2 ++ [x] ++ inP (tk n) b 2 := by rw [hs]; rfl
     rw [e]; exact prn_eq ih p x m a b ha hb hs w0 v B b0 hT hB hk
   ·exact prn_ypair ih p x m a b ha hb w0 v B b0 hT hB hk
  ·replace e1 : k = 9 := e1
   replace e2 : m = 1 := e2
   replace e3 : kids = [f, b] := e3
   subst e1 e2 e3
   have e : tk (n + 1) (.mk 9 p x 1 [f, b]) = ([[108, 101, 116]] ++ [[114, 101, 99]] ++ [x] ++ [f.name] ++ ([61] :: tk n a)) ++ ([105, 110] :: tk n b) := by
    have : tk (n + 1) (.mk 9 p x 1 [f, b]) = ([[108, 101, 116]] ++ [[114, 101, 99]] ++ [x] ++ [f.name] ++ ([61] :: tk n (kid0 f))) ++ ([105, 110] :: tk n b) := rfl
    rw [this]
    simp [kid0, hfa]
   rw [e]
   exact prn_rec ih p x f a b hfa ha hb w0 v B b0 hT hB hk
  ·replace e1 : k = 11 := e1
   replace e2 : kids = [a, b, c] := e2
   subst e1 e2
   exact prn_if ih p x m a b c ha hb hc w0 v B b0 hT hB hk
  ·replace e1 : k = 17 := e1
   replace e2 : kids = [a, b, c, d, e] := e2
   subst e1 e2
   exact prn_case ih p x m a b c d e ha hb he w0 v B b0 hT hB hk
  ·replace e1 : k = 20 := e1
   replace e2 : kids = a :: r :: cs := e2
   subst e1 e2
   have e3 : tk (n + 1) (.mk 20 p x m (a :: r :: cs)) = ((if m = 1 then [115, 104, 97, 108, 108, 111, 119] else [104, 97, 110, 100, 108, 101]) :: tk n a) ++ [[119, 105, 116, 104]] ++ ([123] :: ([[114, 101, 116, 117, 114, 110], r.name] ++ ([61, 62] :: tk n e))) ++ cs.flatMap (fun q => [124] :: clauseTk (tk n) q) ++ [[125]] := by
    have : tk (n + 1) (.mk 20 p x m (a :: r :: cs)) = ((if m = 1 then [115, 104, 97, 108, 108, 111, 119] else [104, 97, 110, 100, 108, 101]) :: tk n a) ++ [[119, 105, 116, 104]] ++ ([123] :: ([[114, 101, 116, 117, 114, 110], r.name] ++ ([61, 62] :: tk n (kid0 r)))) ++ cs.flatMap (fun q => [124] :: clauseTk (tk n) q) ++ [[125]] := rfl
    rw [this]
    simp [kid0, hre]
   rw [e3]
   exact prn_handle ih p x m a r e cs hns ha hr hre he hcs w0 v B b0 hT hB hk
  ·replace e1 : k = 29 := e1
   replace e2 : kids = a :: b :: ns := e2
   subst e1 e2
   exact prn_arrow ih p x m a b ns hns ha hb w0 v B b0 hT hB hk
  ·replace e1 : k = 0 := e1
   replace e2 : kids = its ++ [mn] := e2
   subst e1 e2
   have e3 : tk (n + 1) (.mk 0 p x m (its ++ [mn])) = its.flatMap (itemTk (tk n)) ++ [[109, 97, 105, 110]] ++ ([61] :: tk n mn) := by
    have : tk (n + 1) (.mk 0 p x m (its ++ [mn])) = ((its ++ [mn]).dropLast).flatMap (itemTk (tk n)) ++ [[109, 97, 105, 110]] ++ ([61] :: tk n ((its ++ [mn]).getLastD Sy.zT)) := rfl
    rw [this]
    simp
   rw [e3]
   exact prn_prog ih p x m its mn hns hmn hi w0 v B b0 hT hB hk
end Go.Proofs.YtoajnlhegallpaaGreatDoor
