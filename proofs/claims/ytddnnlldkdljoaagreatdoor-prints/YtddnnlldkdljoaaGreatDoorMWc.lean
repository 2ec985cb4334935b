/-
  What the document writes of a node: numbers, and what is made of no other things.
  What the document writes of a node: fst, snd, lists of types, applications.
  What the document writes of the type of functions.
-/
import Derived.Test.YtddnnlldkdljoaaGreatDoorMWb
namespace Go.Proofs.YtddnnlldkdljoaaGreatDoor
open Go.RowKit

/-- A number's digits. -/
def Sy.dig (n : Nat) : List UInt8 := if h : n < 10 then [(48 + n).toUInt8] else Sy.dig (n / 10) ++ [(48 + n % 10).toUInt8]
termination_by n
theorem dig_len : ∀ (k n : Nat), n < 10 ^ (k + 1) → (Sy.dig n).length ≤ k + 1 := by
  intro k
  induction k with
  | zero => intro n h; rw [Sy.dig, dif_pos (by simpa using h)]; simp
  | succ k ih =>
    intro n h
    rw [Sy.dig]
    by_cases h1 : n < 10
    · rw [dif_pos h1]; simp
    · rw [dif_neg h1]
      have := ih (n / 10) (by rw [Nat.pow_succ] at h; omega)
      simp; omega
theorem dig_small {n : Nat} (h : n ≤ 9223372036854775807) : (Sy.dig n).length ≤ 19 := dig_len 18 n (by omega)
theorem conv1 (W : World) (c : UInt8) (x : Int) (h : x = c.toNat) :
    (convert 74 9 (.slice (some ⟨W.heap.size, 0, none⟩) 1 1)).run Tryz.prog (W.alloc (.cells #[.int .u8 x] 5)) = .ok (.string ⟨[c].toArray⟩) (W.alloc (.cells #[.int .u8 x] 5)) := by
  subst h
  exact run_convert_bytes_back (P := Tryz.prog) (W.alloc (.cells #[.int .u8 c.toNat] 5)) 74 9 5 ⟨W.heap.size, 0, none⟩ 1 [c] Tryz.underlying74 Tryz.underlying5 Tryz.underlying9 (fun j hj => by
    have : j = 0 := by simpa using hj
    subst this
    simp [go_sem, Addr.add])
theorem dig_byte (m : Nat) : ((48 : Int) + (m : Int) % 10) = ((48 + m % 10).toUInt8).toNat := by
  have : (48 + m % 10).toUInt8.toNat = 48 + m % 10 := by simp [Nat.toUInt8]; omega
  rw [this]; omega
theorem dig_step (m : Nat) (h : ¬ m < 10) : Sy.dig m = Sy.dig (m / 10) ++ [(48 + m % 10).toUInt8] := by rw [Sy.dig, dif_neg h]
theorem dig_last (m : Nat) (h : m < 10) : Sy.dig m = [(48 + m % 10).toUInt8] := by rw [Sy.dig, dif_pos h, Nat.mod_eq_of_lt h]
theorem cat_ba (a b : List UInt8) : (⟨a.toArray⟩ : ByteArray) ++ ⟨b.toArray⟩ = ⟨(a ++ b).toArray⟩ := by
  rw [ByteArray.ext_iff]
  simp [ByteArray.data_append]

set_option maxRecDepth 100000 in
set_option maxHeartbeats 4000000 in
theorem digits_any (n : Nat) (w : World) (hn : n ≤ 9223372036854775807) :
    Calls Tryz.prog 23 #[.int .i64 n] w fun e w' => e = .returned (.string ⟨(Sy.dig n).toArray⟩) ∧ Hid (Below w.heap.size w w') := by
  have HL := hid (dig_small hn)
  go_enter Tryz.func23, Tryz.ntmps23
  go_wp2_with fail
  go_loopw [0, 3] (fun t u wr => ∃ (m : Nat) (l : List UInt8), t = .int .i64 m ∧ u = .string ⟨l.toArray⟩ ∧ m ≤ 9223372036854775807 ∧ Hid (Sy.dig n = Sy.dig m ++ l) ∧ Hid (Below w.heap.size w wr)) (fun t _ _ => (intOf t).toNat)
  case atStart => exact ⟨n, [], rfl, rfl, hn, by simp [Hid], Below.refl _ _⟩
  case round =>
    obtain ⟨m, l, rfl, rfl, hm, HD, HB⟩ := hrel
    have hl : l.length ≤ 19 := by have h1 := congrArg List.length HD.out; have h2 := HL.out; simp at h1; omega
    have kc := fun (W : World) => conv1 W _ _ (dig_byte m)
    have HS := hid (fun h => dig_step m h)
    have HT := hid (fun h => dig_last m h)
    generalize (48 + m % 10).toUInt8 = c at kc HS HT
    by_cases h10 : m < 10
    · have hz : (m : Int) / 10 = 0 := by omega
      go_wp2_with fail
      go_ret
      refine ⟨ret_str ?_, HB.out.alloc HB.out.size _⟩
      rw [HD.out, HT.out h10]
      simp [ByteArray.data_append]
    · have hz : ¬ (m : Int) / 10 = 0 := by omega
      go_wp2_with fail
      go_roundw
      case rel =>
        refine ⟨m / 10, c :: l, by go_num, congrArg Value.string (cat_ba [c] l), by omega, ?_, HB.out.alloc HB.out.size _⟩
        rw [Hid, HD.out, HS.out h10]
        simp
      case measure => simp [intOf]; omega

def numT (m : Int) : List UInt8 := if m < 0 then [126, 32] ++ Sy.dig m.natAbs else Sy.dig m.natAbs
set_option maxRecDepth 100000 in
set_option maxHeartbeats 4000000 in
theorem wk_int (w : World) (p m : Int) (nm : ByteArray) (v : Value) (h1 : -9223372036854775807 ≤ m) (h2 : m ≤ 9223372036854775807) :
    Calls Tryz.prog 10 #[.agg #[.int .i64 3, .int .i64 p, .string nm, .int .i64 m, v]] w fun en w' => StrRes w (numT m) en w' := by
  unfold numT
  by_cases h0 : m < 0
  · rw [if_pos h0]
    obtain ⟨q, hq⟩ : ∃ q : Nat, m = -(q : Int) := ⟨m.natAbs, by omega⟩
    subst hq
    have hqq : (-(q : Int)).natAbs = q := by omega
    rw [hqq]
    have hq2 : q ≤ 9223372036854775807 := by omega
    have HD := hid (fun (V : World) => digits_any q V hq2)
    have hdl := dig_small hq2
    have hng : IntKind.i64.wrap (- -(q : Int)) = (q : Int) := by rw [IntKind.wrap_i64]; omega
    generalize Sy.dig q = dg at HD hdl ⊢
    go_enter Tryz.func10, Tryz.ntmps10
    go_wp2_with fail
    refine (HD.out _).mono ?_
    rintro en w1 ⟨rfl, HB⟩
    go_wp2_with fail
    go_ret
    exact str_fin (by simp [ByteArray.data_append]) ((Below.alloc (Below.refl w.heap.size w) (Nat.le_refl _) _).trans (HB.out.mono (by simp)))
  · rw [if_neg h0]
    obtain ⟨q, hq⟩ : ∃ q : Nat, m = (q : Int) := ⟨m.natAbs, by omega⟩
    subst hq
    have hqq : ((q : Int)).natAbs = q := by omega
    rw [hqq]
    have HD := hid (fun (V : World) => digits_any q V (by omega))
    generalize Sy.dig q = dg at HD ⊢
    go_enter Tryz.func10, Tryz.ntmps10
    go_wp2_with fail
    refine (HD.out _).mono ?_
    rintro en w1 ⟨rfl, HB⟩
    go_wp2_with fail
    go_ret
    exact str_fin rfl ((Below.alloc (Below.refl w.heap.size w) (Nat.le_refl _) _).trans (HB.out.mono (by simp)))

def leafT (k m : Int) (x : List UInt8) : List UInt8 :=
  if k = 4 then (if m = 1 then [116, 114, 117, 101] else [102, 97, 108, 115, 101]) else if k = 5 then [40, 32, 41] else if k = 6 ∨ k = 23 then x else if k = 15 then [91, 32, 93]
  else if k = 24 then [105, 110, 116] else if k = 25 then [98, 111, 111, 108] else [117, 110, 105, 116]
set_option maxRecDepth 100000 in
set_option maxHeartbeats 4000000 in
theorem wk_leaf (w : World) (k p m : Int) (x : List UInt8) (v : Value) (hk : k = 4 ∨ k = 5 ∨ k = 6 ∨ k = 23 ∨ k = 15 ∨ k = 24 ∨ k = 25 ∨ k = 26) :
    Calls Tryz.prog 10 #[.agg #[.int .i64 k, .int .i64 p, .string ⟨x.toArray⟩, .int .i64 m, v]] w fun en w' => StrRes w (leafT k m x) en w' := by
  unfold leafT
  rcases hk with rfl | rfl | rfl | rfl | rfl | rfl | rfl | rfl
  all_goals
    go_enter Tryz.func10, Tryz.ntmps10
    go_wp2_with fail
  all_goals
    go_ret
    refine str_fin ?_ ((Below.refl _ _).alloc (Nat.le_refl _) _)
    simp_all
end Go.Proofs.YtddnnlldkdljoaaGreatDoor

namespace Go.Proofs.YtddnnlldkdljoaaGreatDoor
open Go.RowKit

set_option maxRecDepth 100000 in
set_option maxHeartbeats 4000000 in
theorem wk_fst (w : World) (p m : Int) (nm : ByteArray) (g o c : Nat) (k0 p0 : Int) (n0 : ByteArray) (m0 : Int) (v0 : Value) (x0 : List UInt8) (_hc : 1 ≤ c) (hg : g < w.heap.size) (E0 : Nod w g o k0 p0 n0 m0 v0) (hx0 : x0.length ≤ 1000000000)
    (h0 : IOK w (Value.agg #[.int .i64 k0, .int .i64 p0, .string n0, .int .i64 m0, v0]) 6 x0) :
    Calls Tryz.prog 10 #[.agg #[.int .i64 13, .int .i64 p, .string nm, .int .i64 m, .slice (some ⟨g, o, none⟩) 1 c]] w fun en w' => StrRes w ([102, 115, 116, 32] ++ x0) en w' := by
  have H0 := hid h0
  have hgn : ¬ g = w.heap.size := by omega
  obtain ⟨e0, e1, e2, e3, e4⟩ := E0
  clear h0
  go_enter Tryz.func10, Tryz.ntmps10
  go_wp2_with fail
  refine (H0.out _ ((Below.refl _ _).alloc (Nat.le_refl _) _)).mono ?_
  rintro en w1 ⟨rfl, HB⟩
  go_wp2_with fail
  go_ret
  exact str_fin (by simp [ByteArray.data_append]) ((Below.alloc (Below.refl w.heap.size w) (Nat.le_refl _) _).trans (HB.out.mono (by simp)))
set_option maxRecDepth 100000 in
set_option maxHeartbeats 4000000 in
theorem wk_snd (w : World) (p m : Int) (nm : ByteArray) (g o c : Nat) (k0 p0 : Int) (n0 : ByteArray) (m0 : Int) (v0 : Value) (x0 : List UInt8) (_hc : 1 ≤ c) (hg : g < w.heap.size) (E0 : Nod w g o k0 p0 n0 m0 v0) (hx0 : x0.length ≤ 1000000000)
    (h0 : IOK w (Value.agg #[.int .i64 k0, .int .i64 p0, .string n0, .int .i64 m0, v0]) 6 x0) :
    Calls Tryz.prog 10 #[.agg #[.int .i64 14, .int .i64 p, .string nm, .int .i64 m, .slice (some ⟨g, o, none⟩) 1 c]] w fun en w' => StrRes w ([115, 110, 100, 32] ++ x0) en w' := by
  have H0 := hid h0
  have hgn : ¬ g = w.heap.size := by omega
  obtain ⟨e0, e1, e2, e3, e4⟩ := E0
  clear h0
  go_enter Tryz.func10, Tryz.ntmps10
  go_wp2_with fail
  refine (H0.out _ ((Below.refl _ _).alloc (Nat.le_refl _) _)).mono ?_
  rintro en w1 ⟨rfl, HB⟩
  go_wp2_with fail
  go_ret
  exact str_fin (by simp [ByteArray.data_append]) ((Below.alloc (Below.refl w.heap.size w) (Nat.le_refl _) _).trans (HB.out.mono (by simp)))
set_option maxRecDepth 100000 in
set_option maxHeartbeats 4000000 in
theorem wk_ylist (w : World) (p m : Int) (nm : ByteArray) (g o c : Nat) (k0 p0 : Int) (n0 : ByteArray) (m0 : Int) (v0 : Value) (x0 : List UInt8) (_hc : 1 ≤ c) (hg : g < w.heap.size) (E0 : Nod w g o k0 p0 n0 m0 v0) (hx0 : x0.length ≤ 1000000000)
    (h0 : IOK w (Value.agg #[.int .i64 k0, .int .i64 p0, .string n0, .int .i64 m0, v0]) 2 x0) :
    Calls Tryz.prog 10 #[.agg #[.int .i64 27, .int .i64 p, .string nm, .int .i64 m, .slice (some ⟨g, o, none⟩) 1 c]] w fun en w' => StrRes w (x0 ++ [32, 108, 105, 115, 116]) en w' := by
  have H0 := hid h0
  have hgn : ¬ g = w.heap.size := by omega
  obtain ⟨e0, e1, e2, e3, e4⟩ := E0
  clear h0
  go_enter Tryz.func10, Tryz.ntmps10
  go_wp2_with fail
  refine (H0.out _ ((Below.refl _ _).alloc (Nat.le_refl _) _)).mono ?_
  rintro en w1 ⟨rfl, HB⟩
  go_wp2_with fail
  go_ret
  exact str_fin (by simp [ByteArray.data_append]) ((Below.alloc (Below.refl w.heap.size w) (Nat.le_refl _) _).trans (HB.out.mono (by simp)))
set_option maxRecDepth 100000 in
set_option maxHeartbeats 8000000 in
theorem wk_app (w : World) (p m : Int) (nm : ByteArray) (g o c : Nat) (k0 p0 : Int) (n0 : ByteArray) (m0 : Int) (v0 : Value) (k1 p1 : Int) (n1 : ByteArray) (m1 : Int) (v1 : Value) (x0 y0 x1 : List UInt8) (_hc : 2 ≤ c) (hg : g < w.heap.size)
    (E0 : Nod w g o k0 p0 n0 m0 v0) (E1 : Nod w g (o + 5) k1 p1 n1 m1 v1) (hx0 : x0.length ≤ 1000000000) (hy : k0 ≠ 8 → y0.length ≤ 1000000000) (hx1 : x1.length ≤ 1000000000)
    (h0 : WOK w (Value.agg #[.int .i64 k0, .int .i64 p0, .string n0, .int .i64 m0, v0]) x0) (i0 : IOK w (Value.agg #[.int .i64 k0, .int .i64 p0, .string n0, .int .i64 m0, v0]) 6 y0) (h1 : IOK w (Value.agg #[.int .i64 k1, .int .i64 p1, .string n1, .int .i64 m1, v1]) 6 x1) :
    Calls Tryz.prog 10 #[.agg #[.int .i64 8, .int .i64 p, .string nm, .int .i64 m, .slice (some ⟨g, o, none⟩) 2 c]] w fun en w' => StrRes w ((if k0 = 8 then x0 else y0) ++ [32] ++ x1) en w' := by
  have H0 := hid h0
  have I0 := hid i0
  have H1 := hid h1
  have F0 := hid E0
  have F1 := hid E1
  have hgn : ¬ g = w.heap.size := by omega
  obtain ⟨e0, e1, e2, e3, e4⟩ := E0
  clear h0 i0 h1 E1
  by_cases hk : k0 = 8
  · subst hk
    rw [if_pos rfl]
    clear hy
    go_enter Tryz.func10, Tryz.ntmps10
    go_wp2_with fail
    refine (H0.out _ ((Below.refl _ _).alloc (Nat.le_refl _) _)).mono ?_
    rintro en w1 ⟨rfl, HC1⟩
    have HB1 := hid ((Below.alloc (Below.refl w.heap.size w) (Nat.le_refl _) _).trans (HC1.out.mono (by simp)))
    clear e0 e1 e2 e3 e4
    have e0 := past_cells HB1.out hg F0.out.1
    obtain ⟨f0, f1, f2, f3, f4⟩ := F1.out
    replace f0 := past_cells HB1.out hg f0
    replace f1 := past_cells HB1.out hg f1
    replace f2 := past_cells HB1.out hg f2
    replace f3 := past_cells HB1.out hg f3
    replace f4 := past_cells HB1.out hg f4
    go_wp2_with fail
    refine (H1.out _ HB1.out).mono ?_
    rintro en w2 ⟨rfl, HC2⟩
    go_wp2_with fail
    go_ret
    exact str_fin (by simp [ByteArray.data_append]) (HB1.out.trans (HC2.out.mono HB1.out.size))
  · rw [if_neg hk]
    have hy0 := hy hk
    clear hy
    go_enter Tryz.func10, Tryz.ntmps10
    go_wp2_with fail
    refine (H0.out _ ((Below.refl _ _).alloc (Nat.le_refl _) _)).mono ?_
    rintro en w1 ⟨rfl, HC1⟩
    have HB1 := hid ((Below.alloc (Below.refl w.heap.size w) (Nat.le_refl _) _).trans (HC1.out.mono (by simp)))
    clear e0 e1 e2 e3 e4
    obtain ⟨e0, e1, e2, e3, e4⟩ := F0.out
    replace e0 := past_cells HB1.out hg e0
    replace e1 := past_cells HB1.out hg e1
    replace e2 := past_cells HB1.out hg e2
    replace e3 := past_cells HB1.out hg e3
    replace e4 := past_cells HB1.out hg e4
    go_wp2_with fail
    refine (I0.out _ HB1.out).mono ?_
    rintro en w2 ⟨rfl, HC2⟩
    have HB2 := hid (HB1.out.trans (HC2.out.mono HB1.out.size))
    clear e0 e1 e2 e3 e4
    obtain ⟨f0, f1, f2, f3, f4⟩ := F1.out
    replace f0 := past_cells HB2.out hg f0
    replace f1 := past_cells HB2.out hg f1
    replace f2 := past_cells HB2.out hg f2
    replace f3 := past_cells HB2.out hg f3
    replace f4 := past_cells HB2.out hg f4
    go_wp2_with fail
    refine (H1.out _ HB2.out).mono ?_
    rintro en w3 ⟨rfl, HC3⟩
    go_wp2_with fail
    go_ret
    exact str_fin (by simp [ByteArray.data_append]) (HB2.out.trans (HC3.out.mono HB2.out.size))
end Go.Proofs.YtddnnlldkdljoaaGreatDoor

namespace Go.Proofs.YtddnnlldkdljoaaGreatDoor
open Go.RowKit

/-- Names with a comma between each two. -/
def commaT : List (List UInt8) → List UInt8
  | [] => []
  | [x] => x
  | x :: y :: r => x ++ 32 :: 44 :: 32 :: commaT (y :: r)
def arrT (ns : List (List UInt8)) : List UInt8 := if ns = [] then [32, 45, 62, 32] else [32, 45, 32, 123, 32] ++ commaT ns ++ [32, 125, 32, 45, 62, 32]
theorem commaT_snoc : ∀ (o : List (List UInt8)) (x : List UInt8), commaT (o ++ [x]) = (if o = [] then [] else commaT o ++ [32, 44, 32]) ++ x := by
  intro o
  induction o with
  | nil => intro x; simp [commaT]
  | cons y r ih =>
    intro x
    cases r with
    | nil => simp [commaT]
    | cons z r =>
      have := ih x
      simp [commaT] at this ⊢
      exact this
theorem comma_step (o : List (List UInt8)) (j : Nat) (h : j < o.length) : commaT (o.take (j + 1)) = (if j = 0 then [] else commaT (o.take j) ++ [32, 44, 32]) ++ o[j] := by
  rw [List.take_succ_eq_append_getElem h, commaT_snoc]
  by_cases h0 : j = 0
  · subst h0; simp
  · have : o.take j ≠ [] := by intro e; have := congrArg List.length e; simp at this; rcases this with h2 | h2 <;> first | exact h0 h2 | (rw [h2] at h; simp at h)
    rw [if_neg this, if_neg h0]
theorem comma_len (o : List (List UInt8)) (j : Nat) : (commaT (o.take j)).length ≤ (commaT o).length := by
  have key : ∀ (a b : List (List UInt8)), (commaT a).length ≤ (commaT (a ++ b)).length := by
    intro a
    induction a with
    | nil => intro b; simp [commaT]
    | cons x r ih =>
      intro b
      cases r with
      | nil => cases b with
        | nil => simp
        | cons y b => simp [commaT]
      | cons y r =>
        have := ih b
        simp [commaT] at this ⊢
        omega
  have := key (o.take j) (o.drop j)
  rwa [List.take_append_drop] at this

set_option maxRecDepth 100000 in
set_option maxHeartbeats 16000000 in
theorem arrow_any (w : World) (p m : Int) (nm : ByteArray) (g o c L : Nat) (k0 p0 : Int) (n0 : ByteArray) (m0 : Int) (v0 : Value) (k1 p1 : Int) (n1 : ByteArray) (m1 : Int) (v1 : Value) (x0 x1 : List UInt8) (ns : List (List UInt8)) (hL : L = ns.length + 2) (hLb : L ≤ 100000) (hc : L ≤ c) (hg : g < w.heap.size)
    (E0 : Nod w g o k0 p0 n0 m0 v0) (E1 : Nod w g (o + 5) k1 p1 n1 m1 v1) (hN : ∀ j (h : j < ns.length), w.cell? ⟨g, o + (j + 2) * 5 + 2, none⟩ = some (.string ⟨ns[j].toArray⟩)) (hx0 : x0.length ≤ 1000000000) (hx1 : x1.length ≤ 1000000000) (hns : (commaT ns).length ≤ 1000000000)
    (h0 : IOK w (Value.agg #[.int .i64 k0, .int .i64 p0, .string n0, .int .i64 m0, v0]) 1 x0) (h1 : WOK w (Value.agg #[.int .i64 k1, .int .i64 p1, .string n1, .int .i64 m1, v1]) x1) :
    Calls Tryz.prog 28 #[.agg #[.int .i64 29, .int .i64 p, .string nm, .int .i64 m, .slice (some ⟨g, o, none⟩) L c]] w fun en w' => StrRes w (x0 ++ arrT ns ++ x1) en w' := by
  have H0 := hid h0
  have H1 := hid h1
  have HNS := hid hN
  have HLL := hid hL
  clear h0 h1 hN hL
  obtain ⟨e00, e01, e02, e03, e04⟩ := E0
  obtain ⟨e10, e11, e12, e13, e14⟩ := E1
  go_enter Tryz.func28, Tryz.ntmps28
  go_upto_region 1 with fail
  obtain ⟨W, hW⟩ : ∃ W, W = w.alloc (.cells #[.int .i64 29, .int .i64 p, .string nm, .int .i64 m, .slice (some ⟨g, o, none⟩) L c] 24) := ⟨_, rfl⟩
  rw [← hW]
  have HB0 : Hid (Below w.heap.size w W) := by rw [hW]; exact (Below.refl _ _).alloc (Nat.le_refl _) _
  have hH0 : w.heap.size < W.heap.size := by rw [hW]; simp
  have hG0 : g < W.heap.size := by omega
  have b4 : W.cell? ⟨w.heap.size, 4, none⟩ = some (.slice (some ⟨g, o, none⟩) L c) := by rw [hW]; simp [go_sem]
  replace e00 := past_cells HB0.out hg e00
  replace e01 := past_cells HB0.out hg e01
  replace e02 := past_cells HB0.out hg e02
  replace e03 := past_cells HB0.out hg e03
  replace e04 := past_cells HB0.out hg e04
  replace e10 := past_cells HB0.out hg e10
  replace e11 := past_cells HB0.out hg e11
  replace e12 := past_cells HB0.out hg e12
  replace e13 := past_cells HB0.out hg e13
  replace e14 := past_cells HB0.out hg e14
  have HNW : Hid (∀ j (h : j < ns.length), W.cell? ⟨g, o + (j + 2) * 5 + 2, none⟩ = some (.string ⟨ns[j].toArray⟩)) := fun j h => past_cells HB0.out hg (HNS.out j h)
  clear hW HNS
  by_cases hn : ns = []
  · have hl2 : L = 2 := by rw [HLL.out, hn]; rfl
    subst hl2
    go_upto_region 11 with fail
    generalize hSd : (⟨#[32, 45, 62, 32]⟩ : ByteArray) = S
    have hSs : S.size ≤ 1000000100 := by rw [← hSd]; decide
    have HSL : Hid (S.data.toList = arrT ns) := by rw [Hid, ← hSd]; simp [arrT, hn]
    clear hSd
    have kA := fun (W : World) => run_string_add_sum (P := Tryz.prog) W ⟨x0.toArray⟩ S (by rw [size_mk]; omega)
    have kB := fun (W : World) => run_string_add_sum (P := Tryz.prog) W (⟨x0.toArray⟩ ++ S) ⟨x1.toArray⟩ (by simp only [ByteArray.size_append, size_mk]; omega)
    go_region_held3 (fun w' => w'.cell? ⟨w.heap.size, 4, none⟩ = some (.slice (some ⟨g, o, none⟩) 2 c) ∧ w'.cell? ⟨g, o, none⟩ = some (.int .i64 k0) ∧ w'.cell? ⟨g, o + 1, none⟩ = some (.int .i64 p0) ∧ w'.cell? ⟨g, o + 2, none⟩ = some (.string n0) ∧ w'.cell? ⟨g, o + 3, none⟩ = some (.int .i64 m0) ∧ w'.cell? ⟨g, o + 4, none⟩ = some (v0) ∧ w'.cell? ⟨g, o + 5, none⟩ = some (.int .i64 k1) ∧ w'.cell? ⟨g, o + 5 + 1, none⟩ = some (.int .i64 p1) ∧ w'.cell? ⟨g, o + 5 + 2, none⟩ = some (.string n1) ∧ w'.cell? ⟨g, o + 5 + 3, none⟩ = some (.int .i64 m1) ∧ w'.cell? ⟨g, o + 5 + 4, none⟩ = some (v1)) (go_keep)
      ((first
        | (go_at_call_of 24 (Value.agg #[.int .i64 k0, .int .i64 p0, .string n0, .int .i64 m0, v0]); refine (H0.out _ (by repeat (with_reducible (first | exact HB0.out | apply Below.drew)))).mono ?_; rintro en w1 ⟨rfl, HC1⟩
           have HB1 : Hid (Below w.heap.size w w1) := Below.trans (by repeat (with_reducible (first | exact HB0.out | apply Below.drew))) (HC1.out.mono (Nat.le_of_lt hH0))
           have hH1 : w.heap.size < w1.heap.size := Nat.lt_of_lt_of_le hH0 HC1.out.size
           have hG1 : g < w1.heap.size := Nat.lt_of_lt_of_le hG0 HC1.out.size
           have b4_1 := past_cells HC1.out hH0 b4
           have e00_1 := past_cells HC1.out hG0 e00
           have e01_1 := past_cells HC1.out hG0 e01
           have e02_1 := past_cells HC1.out hG0 e02
           have e03_1 := past_cells HC1.out hG0 e03
           have e04_1 := past_cells HC1.out hG0 e04
           have e10_1 := past_cells HC1.out hG0 e10
           have e11_1 := past_cells HC1.out hG0 e11
           have e12_1 := past_cells HC1.out hG0 e12
           have e13_1 := past_cells HC1.out hG0 e13
           have e14_1 := past_cells HC1.out hG0 e14)
        | (go_at_call_of 10 (Value.agg #[.int .i64 k1, .int .i64 p1, .string n1, .int .i64 m1, v1]); refine (H1.out _ (by repeat (with_reducible (first | exact HB1.out | apply Below.drew)))).mono ?_; rintro en w2 ⟨rfl, HC2⟩
           have HB2 : Hid (Below w.heap.size w w2) := Below.trans (by repeat (with_reducible (first | exact HB1.out | apply Below.drew))) (HC2.out.mono (Nat.le_of_lt hH1))
           have hH2 : w.heap.size < w2.heap.size := Nat.lt_of_lt_of_le hH1 HC2.out.size
           have hG2 : g < w2.heap.size := Nat.lt_of_lt_of_le hG1 HC2.out.size
           have b4_2 := past_cells HC2.out hH1 b4_1
           have e00_2 := past_cells HC2.out hG1 e00_1
           have e01_2 := past_cells HC2.out hG1 e01_1
           have e02_2 := past_cells HC2.out hG1 e02_1
           have e03_2 := past_cells HC2.out hG1 e03_1
           have e04_2 := past_cells HC2.out hG1 e04_1
           have e10_2 := past_cells HC2.out hG1 e10_1
           have e11_2 := past_cells HC2.out hG1 e11_1
           have e12_2 := past_cells HC2.out hG1 e12_1
           have e13_2 := past_cells HC2.out hG1 e13_1
           have e14_2 := past_cells HC2.out hG1 e14_1)))
    all_goals
      go_wp2_with fail
      go_ret
      refine str_fin (by rw [← HSL.out]; simp [ByteArray.data_append]) ?_
      repeat (with_reducible (first | exact HB2.out | apply Below.drew))
  · have hl3 : 2 < L := by have := List.length_pos_iff.2 hn; have := HLL.out; omega
    go_wp2_with fail
    go_loop [3, 4] (fun s v => ∃ q : Nat, v = .int .i64 q ∧ 2 ≤ q ∧ q ≤ L ∧ s = .string ⟨([32, 45, 32, 123, 32] ++ commaT (ns.take (q - 2))).toArray⟩) (fun _ v => L - (intOf v).toNat)
    case atStart => exact ⟨2, rfl, by omega, by omega, by simp [commaT]⟩
    case round =>
      obtain ⟨q, rfl, hq2, hqL, rfl⟩ := hrel
      have hcl := comma_len ns (q - 2)
      by_cases hlt : q < L
      · have hlt2 : q - 2 < ns.length := by have := HLL.out; omega
        have ce := HNW.out (q - 2) hlt2
        rw [show q - 2 + 2 = q by omega] at ce
        have HJ := hid (comma_step ns (q - 2) hlt2)
        rw [show q - 2 + 1 = q + 1 - 2 by omega] at HJ
        have hxl : ns[q - 2].length ≤ 1000000000 := by
          have h1 := congrArg List.length HJ.out
          have h2 := comma_len ns (q + 1 - 2)
          simp only [List.length_append] at h1
          omega
        generalize ns[q - 2] = x at ce HJ hxl
        generalize hjj : commaT (ns.take (q - 2)) = jj at hcl HJ ⊢
        have HJJ := hid hjj.symm
        clear hjj
        have hjl : ([32, 45, 32, 123, 32] ++ jj).length = jj.length + 5 := by simp
        generalize hyy : [32, 45, 32, 123, 32] ++ jj = yy at hjl ⊢
        have HYY := hid hyy
        clear hyy
        have hyl : yy.length ≤ 1000000005 := by omega
        clear hjl
        by_cases h3 : 2 < q
        · go_wp2_with fail
          go_round
          case rel => exact ⟨q + 1, by go_num, by omega, by omega, congrArg Value.string (str_ext (by rw [HJ.out, if_neg (by omega), ← HYY.out]; simp [ByteArray.data_append]))⟩
          case measure => simp [intOf] <;> omega
        · go_wp2_with fail
          go_round
          case rel => exact ⟨q + 1, by go_num, by omega, by omega, congrArg Value.string (str_ext (by
            have hj0 : q - 2 = 0 := by omega
            have e2 : jj = [] := by rw [HJJ.out, hj0]; simp [commaT]
            rw [HJ.out, if_pos hj0, ← HYY.out, e2]; simp [ByteArray.data_append]))⟩
          case measure => simp [intOf] <;> omega
      · have hqe : q - 2 = ns.length := by have := HLL.out; omega
        rw [hqe, List.take_length]
        have hyl : ([32, 45, 32, 123, 32] ++ commaT ns).length = (commaT ns).length + 5 := by simp
        clear hqe
        generalize hyy : [32, 45, 32, 123, 32] ++ commaT ns = yy at hyl ⊢
        have HYY := hid hyy
        clear hyy
        go_upto_region 11 with fail
        generalize hSd : (⟨yy.toArray⟩ ++ ⟨#[32, 125, 32, 45, 62, 32]⟩ : ByteArray) = S
        have hSs : S.size ≤ 1000000100 := by
          have h1 : (⟨#[32, 125, 32, 45, 62, 32]⟩ : ByteArray).size = 6 := rfl
          rw [← hSd, ByteArray.size_append, size_mk, h1]; omega
        have HSL : Hid (S.data.toList = arrT ns) := by rw [Hid, ← hSd]; simp [arrT, hn, ByteArray.data_append, ← HYY.out]
        clear hSd
        have i0 : 0 < L := by omega
        have i1 : 1 < L := by omega
        have i2 : (0 : Int) < (L : Int) := by omega
        have i3 : (1 : Int) < (L : Int) := by omega
        have kA := fun (W : World) => run_string_add_sum (P := Tryz.prog) W ⟨x0.toArray⟩ S (by rw [size_mk]; omega)
        have kB := fun (W : World) => run_string_add_sum (P := Tryz.prog) W (⟨x0.toArray⟩ ++ S) ⟨x1.toArray⟩ (by simp only [ByteArray.size_append, size_mk]; omega)
        go_region_held3 (fun w' => w'.cell? ⟨w.heap.size, 4, none⟩ = some (.slice (some ⟨g, o, none⟩) L c) ∧ w'.cell? ⟨g, o, none⟩ = some (.int .i64 k0) ∧ w'.cell? ⟨g, o + 1, none⟩ = some (.int .i64 p0) ∧ w'.cell? ⟨g, o + 2, none⟩ = some (.string n0) ∧ w'.cell? ⟨g, o + 3, none⟩ = some (.int .i64 m0) ∧ w'.cell? ⟨g, o + 4, none⟩ = some (v0) ∧ w'.cell? ⟨g, o + 5, none⟩ = some (.int .i64 k1) ∧ w'.cell? ⟨g, o + 5 + 1, none⟩ = some (.int .i64 p1) ∧ w'.cell? ⟨g, o + 5 + 2, none⟩ = some (.string n1) ∧ w'.cell? ⟨g, o + 5 + 3, none⟩ = some (.int .i64 m1) ∧ w'.cell? ⟨g, o + 5 + 4, none⟩ = some (v1)) (go_keep)
          ((first
            | (go_at_call_of 24 (Value.agg #[.int .i64 k0, .int .i64 p0, .string n0, .int .i64 m0, v0]); refine (H0.out _ (by repeat (with_reducible (first | exact HB0.out | apply Below.drew)))).mono ?_; rintro en w1 ⟨rfl, HC1⟩
               have HB1 : Hid (Below w.heap.size w w1) := Below.trans (by repeat (with_reducible (first | exact HB0.out | apply Below.drew))) (HC1.out.mono (Nat.le_of_lt hH0))
               have hH1 : w.heap.size < w1.heap.size := Nat.lt_of_lt_of_le hH0 HC1.out.size
               have hG1 : g < w1.heap.size := Nat.lt_of_lt_of_le hG0 HC1.out.size
               have b4_1 := past_cells HC1.out hH0 b4
               have e00_1 := past_cells HC1.out hG0 e00
               have e01_1 := past_cells HC1.out hG0 e01
               have e02_1 := past_cells HC1.out hG0 e02
               have e03_1 := past_cells HC1.out hG0 e03
               have e04_1 := past_cells HC1.out hG0 e04
               have e10_1 := past_cells HC1.out hG0 e10
               have e11_1 := past_cells HC1.out hG0 e11
               have e12_1 := past_cells HC1.out hG0 e12
               have e13_1 := past_cells HC1.out hG0 e13
               have e14_1 := past_cells HC1.out hG0 e14)
            | (go_at_call_of 10 (Value.agg #[.int .i64 k1, .int .i64 p1, .string n1, .int .i64 m1, v1]); refine (H1.out _ (by repeat (with_reducible (first | exact HB1.out | apply Below.drew)))).mono ?_; rintro en w2 ⟨rfl, HC2⟩
               have HB2 : Hid (Below w.heap.size w w2) := Below.trans (by repeat (with_reducible (first | exact HB1.out | apply Below.drew))) (HC2.out.mono (Nat.le_of_lt hH1))
               have hH2 : w.heap.size < w2.heap.size := Nat.lt_of_lt_of_le hH1 HC2.out.size
               have hG2 : g < w2.heap.size := Nat.lt_of_lt_of_le hG1 HC2.out.size
               have b4_2 := past_cells HC2.out hH1 b4_1
               have e00_2 := past_cells HC2.out hG1 e00_1
               have e01_2 := past_cells HC2.out hG1 e01_1
               have e02_2 := past_cells HC2.out hG1 e02_1
               have e03_2 := past_cells HC2.out hG1 e03_1
               have e04_2 := past_cells HC2.out hG1 e04_1
               have e10_2 := past_cells HC2.out hG1 e10_1
               have e11_2 := past_cells HC2.out hG1 e11_1
               have e12_2 := past_cells HC2.out hG1 e12_1
               have e13_2 := past_cells HC2.out hG1 e13_1
               have e14_2 := past_cells HC2.out hG1 e14_1)))
        all_goals
          go_wp2_with fail
          go_ret
          refine str_fin (by rw [← HSL.out]; simp [ByteArray.data_append]) ?_
          repeat (with_reducible (first | exact HB2.out | apply Below.drew))
end Go.Proofs.YtddnnlldkdljoaaGreatDoor
