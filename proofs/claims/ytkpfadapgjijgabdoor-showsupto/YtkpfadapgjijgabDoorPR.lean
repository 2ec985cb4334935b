/-
  What the program's check of a type answers, of a type that is proper: the whole.
-/
import Derived.Test.YtkpfadapgjijgabDoorPQ
namespace Go.Proofs.YtkpfadapgjijgabDoor
open Go.RowKit

set_option maxRecDepth 100000 in
set_option maxHeartbeats 4000000 in
theorem alone_any (k n r : Int) (a b : Option Addr) (c la d : Nat) (o : List (List UInt8)) (w : World) (h0 : ¬ k < 0) (h6 : ¬ 6 < k) (hla : (la : Int) = argsP k)
    (hN : (k = 0 ∧ 1 ≤ n ∧ n ≤ 1000000000) ∨ (k ≠ 0 ∧ n = 0)) (hR : (k ≠ 6 ∧ o = [] ∧ r = 0) ∨ (k = 6 ∧ 0 ≤ r ∧ r ≤ 1000000000)) (hO : OpsV w (.slice a o.length c) o) (hn : ∀ x ∈ o, x ≠ []) (ho : Ty.inOrder o) (hl : o.length ≤ 300) :
    Calls Tryd.prog 18 #[.agg #[.int .i64 k, .int .i64 n, .int .i64 r, .slice a o.length c, .slice b la d]] w fun e w' => e = .returned (.bool true) ∧ Hid (Below w.heap.size w w') := by
  have d0 : decide (k < 0) = false := by simpa using h0
  have d6 : decide (6 < k) = false := by simpa using h6
  have dl : ((la : Int) != argsP k) = false := by simpa using hla
  have HN := hid (fun w => number_any k n r (.slice a o.length c) (.slice b la d) w hN)
  have HR := hid (fun (w2 : World) (hb : Below w.heap.size w w2) => row_any k n r a c o (.slice b la d) w2 hR (hO.carry hb.block) hn ho hl)
  clear hla hN hR hO hn ho h0 h6
  generalize o.length = lo at HN HR hl ⊢
  go_enter Tryd.func18, Tryd.ntmps18
  go_wp2_with fail
  go_quiet ((go_at_call 22; exact Calls.quiet_of_same (argsOf_any _ _)))
  obtain ⟨W, hW⟩ : ∃ W, W = ((w.alloc (.cells #[.int .i64 k, .int .i64 n, .int .i64 r, .slice a lo c, .slice b la d] 25)).drewN nq) := ⟨_, rfl⟩
  rw [← hW]
  have hBW : Below w.heap.size w W := by rw [hW]; exact below_dn ((Below.refl _ _).alloc (Nat.le_refl _) _) nq
  have hH : w.heap.size < W.heap.size := by rw [hW]; simp
  have b0 : W.cell? ⟨w.heap.size, 0, none⟩ = some (.int .i64 k) := by rw [hW]; simp [go_sem]
  have b1 : W.cell? ⟨w.heap.size, 1, none⟩ = some (.int .i64 n) := by rw [hW]; simp [go_sem]
  have b2 : W.cell? ⟨w.heap.size, 2, none⟩ = some (.int .i64 r) := by rw [hW]; simp [go_sem]
  have b3 : W.cell? ⟨w.heap.size, 3, none⟩ = some (.slice a lo c) := by rw [hW]; simp [go_sem]
  have b4 : W.cell? ⟨w.heap.size, 4, none⟩ = some (.slice b la d) := by rw [hW]; simp [go_sem]
  have HBW := hid hBW
  clear hW hBW
  go_wp2_with fail
  refine (HN.out _).mono ?_
  rintro e w1 ⟨rfl, HB1⟩
  replace b0 := past_cells HB1.out hH b0
  replace b1 := past_cells HB1.out hH b1
  replace b2 := past_cells HB1.out hH b2
  replace b3 := past_cells HB1.out hH b3
  replace b4 := past_cells HB1.out hH b4
  have HBV := hid (HBW.out.trans (HB1.out.mono (Nat.le_of_lt hH)))
  go_wp2_with fail
  refine (HR.out _ HBV.out).mono ?_
  rintro e w2 ⟨rfl, HB2⟩
  go_wp2_with fail
  go_ret
  exact ⟨rfl, HBV.out.trans (HB2.out.mono (HBV.out.size))⟩

def Ty.P.kids : Ty.P → List Ty.P
  | .list a => [a]
  | .pair a b => [a, b]
  | .fn a b _ _ => [a, b]
  | _ => []
theorem Ty.P.parts_eq (t : Ty.P) : t.parts = 1 + t.ops.length + sumP t.kids := by
  cases t <;> simp [Ty.P.parts, Ty.P.ops, Ty.P.kids, sumP] <;> omega
theorem IsT.els {w : World} {t : Ty.P} {os az : Value} (h : IsT w t os az) : ∃ b d, az = .slice b t.kids.length d ∧
    (t.kids ≠ [] → ∃ g o, b = some ⟨g, o, none⟩ ∧ ∀ i (h : i < t.kids.length), ∃ os' az', ElT w g (o + i * 5) t.kids[i] os' az' ∧ IsT w t.kids[i] os' az') := by
  cases t with
  | list a =>
    obtain ⟨_, g, o, d, os', az', h1, _, h2, h3⟩ := h
    refine ⟨_, d, h1, fun _ => ⟨g, o, rfl, fun i hi => ?_⟩⟩
    have : i = 0 := by simp [Ty.P.kids] at hi; exact hi
    subst this
    exact ⟨os', az', by simpa [Ty.P.kids] using h2, h3⟩
  | pair a b =>
    obtain ⟨_, g, o, d, os', az', os2, az2, h1, _, h2, h3, h4, h5⟩ := h
    refine ⟨_, d, h1, fun _ => ⟨g, o, rfl, fun i hi => ?_⟩⟩
    match i, hi with
    | 0, _ => exact ⟨os', az', by simpa [Ty.P.kids] using h2, h3⟩
    | 1, _ => exact ⟨os2, az2, by simpa [Ty.P.kids] using h4, h5⟩
  | fn a b l r =>
    obtain ⟨_, g, o, d, os', az', os2, az2, h1, _, h2, h3, h4, h5⟩ := h
    refine ⟨_, d, h1, fun _ => ⟨g, o, rfl, fun i hi => ?_⟩⟩
    match i, hi with
    | 0, _ => exact ⟨os', az', by simpa [Ty.P.kids] using h2, h3⟩
    | 1, _ => exact ⟨os2, az2, by simpa [Ty.P.kids] using h4, h5⟩
  | var n => obtain ⟨_, b, d, h1⟩ := h; exact ⟨b, d, h1, fun h => absurd rfl h⟩
  | int => obtain ⟨_, b, d, h1⟩ := h; exact ⟨b, d, h1, fun h => absurd rfl h⟩
  | bool => obtain ⟨_, b, d, h1⟩ := h; exact ⟨b, d, h1, fun h => absurd rfl h⟩
  | unit => obtain ⟨_, b, d, h1⟩ := h; exact ⟨b, d, h1, fun h => absurd rfl h⟩
theorem IsT.opsV {w : World} {t : Ty.P} {os az : Value} (h : IsT w t os az) : ∃ a c, os = .slice a t.ops.length c ∧ OpsV w os t.ops := by
  cases t with
  | fn a b l r => obtain ⟨h0, _⟩ := h; obtain ⟨a, c, h1, _⟩ := id h0; exact ⟨a, c, h1, h0⟩
  | list a => obtain ⟨⟨a, c, h0⟩, _⟩ := h; exact ⟨a, c, h0, a, c, h0, Nat.zero_le _, fun h => absurd rfl h⟩
  | pair a b => obtain ⟨⟨a, c, h0⟩, _⟩ := h; exact ⟨a, c, h0, a, c, h0, Nat.zero_le _, fun h => absurd rfl h⟩
  | var n => obtain ⟨⟨a, c, h0⟩, _⟩ := h; exact ⟨a, c, h0, a, c, h0, Nat.zero_le _, fun h => absurd rfl h⟩
  | int => obtain ⟨⟨a, c, h0⟩, _⟩ := h; exact ⟨a, c, h0, a, c, h0, Nat.zero_le _, fun h => absurd rfl h⟩
  | bool => obtain ⟨⟨a, c, h0⟩, _⟩ := h; exact ⟨a, c, h0, a, c, h0, Nat.zero_le _, fun h => absurd rfl h⟩
  | unit => obtain ⟨⟨a, c, h0⟩, _⟩ := h; exact ⟨a, c, h0, a, c, h0, Nat.zero_le _, fun h => absurd rfl h⟩

theorem ok_kids {t : Ty.P} (h : t.ok) : ∀ c ∈ t.kids, c.ok := by
  intro c hc
  cases t with
  | list a => simp only [Ty.P.kids, List.mem_singleton] at hc; subst hc; exact h
  | pair a b =>
    simp only [Ty.P.kids, List.mem_cons, List.not_mem_nil, or_false] at hc
    rcases hc with rfl | rfl
    · exact h.1
    · exact h.2
  | fn a b l r =>
    simp only [Ty.P.kids, List.mem_cons, List.not_mem_nil, or_false] at hc
    rcases hc with rfl | rfl
    · exact h.1
    · exact h.2.1
  | var n => simp [Ty.P.kids] at hc
  | int => simp [Ty.P.kids] at hc
  | bool => simp [Ty.P.kids] at hc
  | unit => simp [Ty.P.kids] at hc
/-- What properAlone looks at. -/
theorem ok_alone {t : Ty.P} (h : t.ok) : (¬ (t.kind : Int) < 0 ∧ ¬ 6 < (t.kind : Int) ∧ ((t.kids.length : Nat) : Int) = argsP t.kind) ∧
    (((t.kind : Int) = 0 ∧ 1 ≤ (t.num : Int) ∧ (t.num : Int) ≤ 1000000000) ∨ ((t.kind : Int) ≠ 0 ∧ (t.num : Int) = 0)) ∧
    (((t.kind : Int) ≠ 6 ∧ t.ops = [] ∧ (t.row : Int) = 0) ∨ ((t.kind : Int) = 6 ∧ 0 ≤ (t.row : Int) ∧ (t.row : Int) ≤ 1000000000)) ∧ (∀ x ∈ t.ops, x ≠ []) ∧ Ty.inOrder t.ops := by
  cases t with
  | var n => obtain ⟨h1, h2⟩ := h; simp [Ty.P.kind, Ty.P.num, Ty.P.row, Ty.P.ops, Ty.P.kids, argsP, Ty.inOrder]; omega
  | int => simp [Ty.P.kind, Ty.P.num, Ty.P.row, Ty.P.ops, Ty.P.kids, argsP, Ty.inOrder]
  | bool => simp [Ty.P.kind, Ty.P.num, Ty.P.row, Ty.P.ops, Ty.P.kids, argsP, Ty.inOrder]
  | unit => simp [Ty.P.kind, Ty.P.num, Ty.P.row, Ty.P.ops, Ty.P.kids, argsP, Ty.inOrder]
  | list a => simp [Ty.P.kind, Ty.P.num, Ty.P.row, Ty.P.ops, Ty.P.kids, argsP, Ty.inOrder]
  | pair a b => simp [Ty.P.kind, Ty.P.num, Ty.P.row, Ty.P.ops, Ty.P.kids, argsP, Ty.inOrder]
  | fn a b l r =>
    obtain ⟨_, _, h3, h4, h5⟩ := h
    refine ⟨by simp [Ty.P.kind, Ty.P.kids, argsP], .inr ⟨by simp [Ty.P.kind], rfl⟩, .inr ⟨rfl, by omega, ?_⟩, fun x hx => (h4 x hx).1, h5⟩
    show (r : Int) ≤ 1000000000
    omega

def LeftOK (t : Ty.P) : Prop := ∀ (w : World) (os az : Value) (left : Nat), IsT w t os az → t.parts ≤ left → left ≤ 300 →
  Calls Tryd.prog 14 #[.agg #[.int .i64 t.kind, .int .i64 t.num, .int .i64 t.row, os, az], .int .i64 left] w fun e w' => e = .returned (.int .i64 ((left - t.parts : Nat) : Int)) ∧ Hid (Below w.heap.size w w')

theorem sumP_take (l : List Ty.P) (m : Nat) (h : m < l.length) : sumP (l.take (m + 1)) = sumP (l.take m) + l[m].parts := by
  rw [List.take_succ_eq_append_getElem h, sumP_snoc]
theorem sumP_take_le (l : List Ty.P) (m : Nat) : sumP (l.take m) ≤ sumP l := by
  have : sumP l = sumP (l.take m) + sumP (l.drop m) := by
    unfold sumP
    rw [← List.sum_append, ← List.map_append, List.take_append_drop]
  omega

set_option maxRecDepth 100000 in
set_option maxHeartbeats 4000000 in
theorem left_step (t : Ty.P) (ht : t.ok) (hK : ∀ c ∈ t.kids, LeftOK c) : LeftOK t := by
  intro w os az left hT hp hl
  obtain ⟨a, c, rfl, hO⟩ := hT.opsV
  obtain ⟨b, d, rfl, hE⟩ := hT.els
  have hpe := t.parts_eq
  have hk2 : t.kids.length ≤ 2 := by cases t <;> simp [Ty.P.kids]
  obtain ⟨⟨g0, g6, gl⟩, gN, gR, gn, go⟩ := ok_alone ht
  have hol : t.ops.length ≤ 300 := by omega
  have HAL := hid (fun (w2 : World) (hb : Below w.heap.size w w2) => alone_any t.kind t.num t.row a b c t.kids.length d t.ops w2 g0 g6 gl gN gR (hO.carry hb.block) gn go hol)
  have HE := hid hE
  have HK := hid hK
  have HPE := hid hpe
  clear hT hO hE hK g0 g6 gl gN gR gn go
  have hp2 : 1 + t.ops.length + sumP t.kids ≤ left := by omega
  generalize hlo : t.ops.length = lo at HAL HPE hp2 hol ⊢
  clear hpe hlo
  generalize hkk : (t.kind : Int) = kk at HAL ⊢
  generalize hnn : (t.num : Int) = nn at HAL ⊢
  generalize hrr : (t.row : Int) = rr at HAL ⊢
  clear hkk hnn hrr
  have hd0 : ¬ (left : Int) - (1 + (lo : Int)) < 0 := by omega
  generalize hkd : t.kids = kids at HAL HE HK HPE hp2 hk2 ⊢
  clear hkd
  obtain ⟨la, hla⟩ : ∃ la, la = kids.length := ⟨_, rfl⟩
  rw [← hla] at HAL hk2 ⊢
  have HLA := hid hla
  clear hla
  go_enter Tryd.func14, Tryd.ntmps14
  go_wp2_with fail
  refine (HAL.out _ ((Below.refl _ _).alloc (Nat.le_refl _) _)).mono ?_
  rintro e w1 ⟨rfl, HB1⟩
  have b4 := past_cells (W := w.alloc (.cells #[.int .i64 kk, .int .i64 nn, .int .i64 rr, .slice a lo c, .slice b la d] 25)) (off := 4) (v := .slice b la d) HB1.out (b := w.heap.size) (by simp) (by simp [go_sem])
  have HBW := hid ((Below.alloc (Below.refl w.heap.size w) (Nat.le_refl _) _).trans (HB1.out.mono (by simp)))
  clear HAL
  go_wp2_with fail
  go_loopw [1, 23] (fun lv v wr => ∃ (m : Nat) (s : Int), v = .int .i64 m ∧ lv = .int .i64 s ∧ m ≤ la ∧ 0 ≤ s ∧ s ≤ 300 ∧ Hid (s = (left : Int) - (1 + lo) - sumP (kids.take m)) ∧ Hid (Below w.heap.size w wr)) (fun _ v _ => la - (intOf v).toNat)
  case atStart => exact ⟨0, _, rfl, rfl, Nat.zero_le _, by omega, by omega, by simp [Hid, sumP], HBW⟩
  case round =>
    obtain ⟨m, s, rfl, rfl, hm, hs0, hs1, HSU, HBR⟩ := hrel
    by_cases hlt : m < la
    · have hlt2 : m < kids.length := by rw [← HLA.out]; exact hlt
      obtain ⟨g, o, hb, hels⟩ := HE.out (by intro h; rw [h] at hlt2; simp at hlt2)
      subst hb
      obtain ⟨os', az', hE1, hT1⟩ := hels m hlt2
      have HLK := hid (HK.out _ (List.getElem_mem hlt2))
      have HST := hid (sumP_take kids m hlt2)
      have HSL := hid (sumP_take_le kids (m + 1))
      have hpp := (kids[m]).parts_pos
      generalize kids[m] = u at hE1 hT1 HLK HST hpp
      have hgl := hE1.lt
      obtain ⟨a2, c2, rfl, _⟩ := hT1.opsV
      obtain ⟨b2, d2, rfl, _⟩ := hT1.els
      generalize u.ops.length = lo2 at hE1 hT1
      generalize u.kids.length = la2 at hE1 hT1
      have HT2 := hid (IsT.past hT1 HBR.out)
      obtain ⟨e0, e1, e2, e3, e4⟩ := El.past hE1 HBR.out
      have hgn : ¬ g = wr.heap.size := by have := HBR.out.size; omega
      clear hels hE1 hT1
      have hs2 : (u.parts : Int) ≤ s := by
        have h1 := HSU.out
        have h2 := HST.out
        have h3 := HSL.out
        omega
      obtain ⟨q, rfl⟩ : ∃ q : Nat, s = q := ⟨s.toNat, by omega⟩
      go_wp2_with fail
      refine (HLK.out _ _ _ q (IsT.alloc HT2.out _) (by omega) (by omega)).mono ?_
      rintro e w3 ⟨rfl, HB3⟩
      generalize hqq : q - u.parts = q2
      have hq3 : (q2 : Int) = (q : Int) - u.parts := by omega
      have HQ := hid hq3
      have hq4 : q2 ≤ 300 := by omega
      have hq5 : ¬ (q2 : Int) < 0 := by omega
      clear hqq hq3
      go_wp2_with fail
      go_roundw
      case rel =>
        refine ⟨m + 1, _, by go_num, rfl, by omega, by omega, by omega, ?_, HBR.out.trans (Below.trans ((Below.refl _ _).alloc (HBR.out.size) _) (HB3.out.mono (by have := HBR.out.size; simp; omega)))⟩
        have h1 := HSU.out
        have h2 := HST.out
        have h3 := HQ.out
        simp only [Hid]
        omega
      case measure => simp [intOf] <;> omega
    · have hme : m = kids.length := by have := HLA.out; omega
      go_wp2_with fail
      go_ret
      refine ⟨ret_int ?_, HBR⟩
      have h1 := HSU.out
      rw [hme, List.take_length] at h1
      have h2 := HPE.out
      omega

theorem left_any : ∀ (t : Ty.P), t.ok → LeftOK t := by
  intro t
  induction t with
  | var n => intro h; exact left_step _ h (fun c hc => by simp [Ty.P.kids] at hc)
  | int => intro h; exact left_step _ h (fun c hc => by simp [Ty.P.kids] at hc)
  | bool => intro h; exact left_step _ h (fun c hc => by simp [Ty.P.kids] at hc)
  | unit => intro h; exact left_step _ h (fun c hc => by simp [Ty.P.kids] at hc)
  | list a ih =>
    intro h
    refine left_step _ h (fun c hc => ?_)
    simp only [Ty.P.kids, List.mem_singleton] at hc
    subst hc
    exact ih h
  | pair a b iha ihb =>
    intro h
    refine left_step _ h (fun c hc => ?_)
    simp only [Ty.P.kids, List.mem_cons, List.not_mem_nil, or_false] at hc
    rcases hc with rfl | rfl
    · exact iha h.1
    · exact ihb h.2
  | fn a b l r iha ihb =>
    intro h
    refine left_step _ h (fun c hc => ?_)
    simp only [Ty.P.kids, List.mem_cons, List.not_mem_nil, or_false] at hc
    rcases hc with rfl | rfl
    · exact iha h.1
    · exact ihb h.2.1

set_option maxHeartbeats 1000000 in
theorem properW_any (t : Ty.P) (ht : t.ok) (hp : t.parts ≤ 300) (w : World) (os az : Value) (h : IsT w t os az) :
    Calls Tryd.prog 8 #[.agg #[.int .i64 t.kind, .int .i64 t.num, .int .i64 t.row, os, az]] w fun e w' => e = .returned (.bool true) ∧ Hid (Below w.heap.size w w') := by
  have HL := hid (fun (o : Obj) => left_any t ht (w.alloc o) os az 300 (h.alloc o) hp (Nat.le_refl _))
  clear h
  go_enter Tryd.func8, Tryd.ntmps8
  go_wp2_with fail
  refine (HL.out _).mono ?_
  rintro e w1 ⟨rfl, HB⟩
  generalize 300 - t.parts = q
  go_wp2_with fail
  go_ret
  exact ⟨ret_bool (by simp), (Below.alloc (Below.refl w.heap.size w) (Nat.le_refl _) _).trans (HB.out.mono (by simp))⟩
end Go.Proofs.YtkpfadapgjijgabDoor
