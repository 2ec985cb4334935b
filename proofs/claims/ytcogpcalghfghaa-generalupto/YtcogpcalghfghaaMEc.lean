/-
  The document's check of a type: proper, Proper: true just of a type that is proper.
  The document's Proper: true just of a type that is proper.
-/
import Derived.Test.YtcogpcalghfghaaEb
import Derived.Lib.Walk
import Derived.WalkLawsBesides
import Derived.Sort.Walk0
set_option linter.unusedVariables false
set_option linter.unusedSimpArgs false
namespace Go.Proofs.Ytcogpcalghfghaa
open Go.RowKit

theorem below_dn {B : Nat} {a w : World} (h : Below B a w) (q : Nat) : Below B a (w.drewN q) := ⟨h.os, h.tape, h.output, h.size, h.block⟩

def PropPost (w0 w : World) (k n r : Int) (os az : Value) (d : Int) (en : Ending) (w' : World) : Prop :=
  ∃ (c : Int) (ok : Bool), en = .returned (.tuple #[.int .i64 c, .bool ok]) ∧ Below w.heap.size w w' ∧
    (ok = true → ∃ t : Ty.P, Fits w0 k n r os az t ∧ c = t.parts ∧ t.parts ≤ 300) ∧ (ok = false → ∀ t : Ty.P, Fits w0 k n r os az t → 300 < (t.parts : Int) + d)
theorem prop_no {w0 w w' : World} {k n r c d : Int} {os az : Value} (hn : ∀ t : Ty.P, Fits w0 k n r os az t → 300 < (t.parts : Int) + d) (hb : Below w.heap.size w w') : PropPost w0 w k n r os az d (.returned (.tuple #[.int .i64 c, .bool false])) w' :=
  ⟨c, false, rfl, hb, fun h => (by cases h), fun _ => hn⟩
/-- What is looked at ahead of the loops. -/
def fine (k n r : Int) (lo : Nat) : Prop := (k = 0 → 1 ≤ n ∧ n ≤ 1000000000) ∧ (k ≠ 0 → n = 0) ∧ (k ≠ 6 → lo = 0 ∧ r = 0) ∧ 0 ≤ r ∧ r ≤ 1000000000
theorem Fits.fine {w : World} {k n r : Int} {os az : Value} {t : Ty.P} (h : Fits w k n r os az t) {a : Option Addr} {c : Nat} {o : List (List UInt8)} (e : os = .slice a o.length c) (ho : OpsV w os o) : fine k n r o.length := by
  have h0 := h.ops e ho
  obtain ⟨h1, rfl, rfl, rfl, _⟩ := h
  rw [← h0]
  cases t with
  | var n => unfold Go.Proofs.Ytcogpcalghfghaa.fine; simp [Ty.P.kind, Ty.P.num, Ty.P.row, Ty.P.ops]; have : 1 ≤ n ∧ n ≤ 1000000000 := h1; omega
  | fn a b l r => unfold Go.Proofs.Ytcogpcalghfghaa.fine; simp [Ty.P.kind, Ty.P.num, Ty.P.row]; have := h1.2.2.1; omega
  | _ => unfold Go.Proofs.Ytcogpcalghfghaa.fine; simp [Ty.P.kind, Ty.P.num, Ty.P.row, Ty.P.ops]
theorem sumP_mem {l : List Ty.P} {i : Nat} (h : i < l.length) : l[i].parts ≤ sumP l := by
  have h1 := sumP_take l (i + 1)
  rw [List.take_succ_eq_append_getElem h, sumP_snoc] at h1
  omega
theorem inOrder_at : ∀ {l : List (List UInt8)} {m : Nat}, Ty.inOrder l → (h : m + 1 < l.length) → ¬ l[m + 1] < l[m] := by
  intro l
  induction l with
  | nil => intro m _ h; simp at h
  | cons a r ih =>
    intro m hl h
    cases r with
    | nil => simp at h
    | cons b r =>
      obtain ⟨h1, h2⟩ := hl
      cases m with
      | zero => exact h1
      | succ m => exact ih (m := m) h2 (by simp at h ⊢; omega)
set_option maxHeartbeats 1000000 in
theorem proper_deep (w0 w : World) (k n r d : Int) (os az : Value) (hd : 300 < d) :
    Calls Try.prog 13 #[.agg #[.int .i64 k, .int .i64 n, .int .i64 r, os, az], .int .i64 d] w fun en w' => PropPost w0 w k n r os az d en w' := by
  have hdd : decide (300 < d) = true := by simpa using hd
  go_enter Try.func13, Try.ntmps13
  go_wp2_with fail
  go_quiet ((go_at_call 22; exact Calls.quiet_of_same (args_any _ _)))
  go_wp2_with fail
  go_ret2
  exact prop_no (fun t _ => by have := t.parts_pos; omega) (by repeat (with_reducible (first | exact Below.refl _ _ | apply Below.drew | apply below_dn | refine Below.alloc ?_ (by simp) _)))
set_option maxHeartbeats 1000000 in
theorem proper_args (w0 w : World) (k n r d : Int) (ao aa : Option Addr) (lo co la ca : Nat) (hd : ¬ 300 < d) (ha : ¬ (la : Int) = argsN k) :
    Calls Try.prog 13 #[.agg #[.int .i64 k, .int .i64 n, .int .i64 r, .slice ao lo co, .slice aa la ca], .int .i64 d] w
      fun en w' => PropPost w0 w k n r (.slice ao lo co) (.slice aa la ca) d en w' := by
  have hdd : decide (300 < d) = false := by simpa using hd
  have hab : ((la : Int) != argsN k) = true := by simpa using ha
  have HA := hid ha
  clear ha
  go_enter Try.func13, Try.ntmps13
  go_wp2_with fail
  go_quiet ((go_at_call 22; exact Calls.quiet_of_same (args_any _ _)))
  go_wp2_with fail
  go_ret2
  exact prop_no (fun t ht => absurd ht.kids.2.1 HA.out) (by repeat (with_reducible (first | exact Below.refl _ _ | apply Below.drew | apply below_dn | refine Below.alloc ?_ (by simp) _)))
set_option maxHeartbeats 1000000 in
theorem proper_many (w0 w : World) (k n r d : Int) (ao aa : Option Addr) (o : List (List UInt8)) (co : Nat) (hO : OpsV w0 (.slice ao o.length co) o) (la ca : Nat) (hd0 : 0 ≤ d) (hd : ¬ 300 < d) (ha : (la : Int) = argsN k) (hl : 300 < o.length) :
    Calls Try.prog 13 #[.agg #[.int .i64 k, .int .i64 n, .int .i64 r, .slice ao o.length co, .slice aa la ca], .int .i64 d] w
      fun en w' => PropPost w0 w k n r (.slice ao o.length co) (.slice aa la ca) d en w' := by
  obtain ⟨lo, hlo⟩ : ∃ lo, lo = o.length := ⟨_, rfl⟩
  have HN : Hid (∀ t : Ty.P, Fits w0 k n r (.slice ao o.length co) (.slice aa la ca) t → 300 < (t.parts : Int) + d) := fun t ht => by
    have h1 := kids_parts t
    rw [ht.ops rfl hO] at h1
    omega
  clear hO hd0
  rw [← hlo] at hl HN ⊢
  clear hlo o
  have hdd : decide (300 < d) = false := by simpa using hd
  have hab : ((la : Int) != argsN k) = false := by simpa using ha
  have hlb : decide ((300 : Int) < lo) = true := by simp; omega
  clear ha
  go_enter Try.func13, Try.ntmps13
  go_wp2_with fail
  go_quiet ((go_at_call 22; exact Calls.quiet_of_same (args_any _ _)))
  go_wp2_with fail
  go_ret2
  exact prop_no HN.out (by repeat (with_reducible (first | exact Below.refl _ _ | apply Below.drew | apply below_dn | refine Below.alloc ?_ (by simp) _)))

set_option maxHeartbeats 4000000 in
theorem proper_odd (w0 w : World) (k n r d : Int) (ao aa : Option Addr) (o : List (List UInt8)) (co : Nat) (hO : OpsV w0 (.slice ao o.length co) o) (la ca : Nat) (hd0 : 0 ≤ d) (hd : ¬ 300 < d) (ha : (la : Int) = argsN k) (hl : ¬ 300 < o.length) (hf : ¬ fine k n r o.length) :
    Calls Try.prog 13 #[.agg #[.int .i64 k, .int .i64 n, .int .i64 r, .slice ao o.length co, .slice aa la ca], .int .i64 d] w
      fun en w' => PropPost w0 w k n r (.slice ao o.length co) (.slice aa la ca) d en w' := by
  obtain ⟨lo, hlo⟩ : ∃ lo, lo = o.length := ⟨_, rfl⟩
  have HN : Hid (∀ t : Ty.P, Fits w0 k n r (.slice ao o.length co) (.slice aa la ca) t → 300 < (t.parts : Int) + d) := fun t ht => absurd (ht.fine rfl hO) hf
  clear hO hd0
  rw [← hlo] at hl HN ⊢
  rw [← hlo] at hf
  clear hlo o
  have hdd : decide (300 < d) = false := by simpa using hd
  have hab : ((la : Int) != argsN k) = false := by simpa using ha
  have hlb : decide ((300 : Int) < lo) = false := by simp; omega
  clear ha
  have hc : (k = 0 ∧ n < 1) ∨ (k = 0 ∧ ¬ n < 1 ∧ 1000000000 < n) ∨ (k ≠ 0 ∧ n ≠ 0) ∨
      (k ≠ 6 ∧ 0 < lo ∧ ((k = 0 ∧ ¬ n < 1 ∧ ¬ 1000000000 < n) ∨ (k ≠ 0 ∧ n = 0))) ∨
      (k ≠ 6 ∧ lo = 0 ∧ r ≠ 0 ∧ ((k = 0 ∧ ¬ n < 1 ∧ ¬ 1000000000 < n) ∨ (k ≠ 0 ∧ n = 0))) ∨
      (k = 6 ∧ n = 0 ∧ r < 0) ∨ (k = 6 ∧ n = 0 ∧ ¬ r < 0 ∧ 1000000000 < r) := by
    unfold fine at hf
    by_cases k0 : k = 0
    · subst k0; simp at hf ⊢; omega
    · by_cases k6 : k = 6
      · subst k6; simp at hf ⊢; omega
      · simp [k0, k6] at hf ⊢; omega
  clear hf
  go_enter Try.func13, Try.ntmps13
  go_wp2_with fail
  go_quiet ((go_at_call 22; exact Calls.quiet_of_same (args_any _ _)))
  rcases hc with ⟨rfl, h1⟩ | ⟨rfl, h1, h2⟩ | ⟨h1, h2⟩ | ⟨h1, h2, (⟨rfl, h3, h4⟩ | ⟨h3, rfl⟩)⟩ | ⟨h1, rfl, h2, (⟨rfl, h3, h4⟩ | ⟨h3, rfl⟩)⟩ | ⟨rfl, rfl, h1⟩ | ⟨rfl, rfl, h1, h2⟩
  all_goals
    go_wp2_with fail
    go_ret2
    exact prop_no HN.out (by repeat (with_reducible (first | exact Below.refl _ _ | apply Below.drew | apply below_dn | refine Below.alloc ?_ (by simp) _)))
def ProperOK (j : Nat) : Prop := ∀ (w0 w : World) (k n r : Int) (os az : Value), Below w0.heap.size w0 w → Rdb w0 j os az →
  Calls Try.prog 13 #[.agg #[.int .i64 k, .int .i64 n, .int .i64 r, os, az], .int .i64 (301 - (j : Int))] w fun en w' => PropPost w0 w k n r os az (301 - (j : Int)) en w'

/-- The first names are none of them empty, and in order. -/
def opsOK (o : List (List UInt8)) (j : Nat) : Prop := (∀ x ∈ o.take j, x ≠ []) ∧ Ty.inOrder (o.take j)

theorem ops_one {o : List (List UInt8)} (h : 0 < o.length) (he : ¬ o[0] = []) : opsOK o 1 := by
  match o, h with
  | x :: r, _ => simpa [opsOK, Ty.inOrder] using he
theorem inOrder_snoc : ∀ (l : List (List UInt8)) (y x : List UInt8), Ty.inOrder (l ++ [y]) → ¬ x < y → Ty.inOrder (l ++ [y] ++ [x]) := by
  intro l
  induction l with
  | nil => intro y x _ h; simpa [Ty.inOrder] using h
  | cons a r ih =>
    intro y x h hx
    cases r with
    | nil => simp [Ty.inOrder] at h ⊢; exact ⟨h, hx⟩
    | cons b r =>
      simp only [List.cons_append, Ty.inOrder] at h ⊢
      exact ⟨h.1, by simpa using ih y x (by simpa using h.2) hx⟩
theorem ops_next {o : List (List UInt8)} {m : Nat} (h : m + 1 < o.length) (he : ¬ o[m + 1] = []) (hp : opsOK o (m + 1)) : ¬ o[m + 1] < o[m] → opsOK o (m + 2) := by
  intro hlt
  have e1 : o.take (m + 2) = o.take (m + 1) ++ [o[m + 1]] := by rw [List.take_succ_eq_append_getElem h]
  have e2 : o.take (m + 1) = o.take m ++ [o[m]] := by rw [List.take_succ_eq_append_getElem (by omega)]
  refine ⟨?_, ?_⟩
  · rw [e1]
    intro x hx
    rcases List.mem_append.1 hx with h1 | h1
    · exact hp.1 x h1
    · rw [List.mem_singleton.1 h1]; exact he
  · rw [e1, e2]
    exact inOrder_snoc _ _ _ (by rw [← e2]; exact hp.2) hlt

/-- The world while it looks: the type's own box stands behind what was there. -/
structure PSt (w wr : World) (ao aa : Option Addr) (lo co la ca : Nat) : Prop where
  bel : Below w.heap.size w wr
  sz : w.heap.size < wr.heap.size
  c3 : wr.cell? ⟨w.heap.size, 3, none⟩ = some (.slice ao lo co)
  c4 : wr.cell? ⟨w.heap.size, 4, none⟩ = some (.slice aa la ca)
theorem PSt.start (w : World) (k n r : Int) (ao aa : Option Addr) (lo co la ca q : Nat) : PSt w ((w.alloc (.cells #[.int .i64 k, .int .i64 n, .int .i64 r, .slice ao lo co, .slice aa la ca] 27)).drewN q) ao aa lo co la ca where
  bel := below_dn ((Below.refl _ _).alloc (Nat.le_refl _) _) q
  sz := by simp
  c3 := by simp [go_sem]
  c4 := by simp [go_sem]
theorem PSt.drewN {w wr : World} {ao aa : Option Addr} {lo co la ca : Nat} (h : PSt w wr ao aa lo co la ca) (q : Nat) : PSt w (wr.drewN q) ao aa lo co la ca :=
  ⟨below_dn h.bel q, by simpa using h.sz, by simpa [go_sem] using h.c3, by simpa [go_sem] using h.c4⟩
theorem PSt.past {w wr w2 : World} {ao aa : Option Addr} {lo co la ca : Nat} (h : PSt w wr ao aa lo co la ca) (hb : Below wr.heap.size wr w2) : PSt w w2 ao aa lo co la ca :=
  ⟨h.bel.trans (hb.mono (Nat.le_of_lt h.sz)), Nat.lt_of_lt_of_le h.sz hb.size, (hb.cell (p := ⟨w.heap.size, 3, none⟩) h.sz).trans h.c3, (hb.cell (p := ⟨w.heap.size, 4, none⟩) h.sz).trans h.c4⟩

theorem prop_yes {w0 w w' : World} {k n r s : Int} {o : List (List UInt8)} {ao aa : Option Addr} {co la ca : Nat} {l : List Ty.P}
    (hf : fine k n r o.length) (hk : (la : Int) = argsN k) (hO : OpsV w0 (.slice ao o.length co) o) (hp : opsOK o o.length) (hl : l.length = la)
    (hA : la ≠ 0 → ∃ g o, aa = some ⟨g, o, none⟩) (he : ∀ g o, aa = some ⟨g, o, none⟩ → elsOK w0 g o l) (hla : la ≤ ca) (hs : s = ((1 + o.length + sumP l : Nat) : Int)) (h300 : l ≠ [] → s ≤ 300)
    (hb : Below w.heap.size w w') (d : Int) : PropPost w0 w k n r (.slice ao o.length co) (.slice aa la ca) d (.returned (.tuple #[.int .i64 s, .bool true])) w' := by
  refine ⟨s, true, rfl, hb, fun _ => ?_, fun h => by cases h⟩
  obtain ⟨f1, f2, f3, f4, f5⟩ := hf
  have hpp : (∀ x ∈ o, x ≠ []) ∧ Ty.inOrder o := by simpa [opsOK] using hp
  unfold argsN at hk
  by_cases k0 : k = 0
  · subst k0
    have : la = 0 := by simpa using hk
    subst this
    obtain ⟨g1, g2⟩ := f3 (by omega)
    obtain rfl : l = [] := List.length_eq_zero_iff.1 hl
    subst g2
    rw [g1] at hs ⊢
    obtain ⟨q, rfl⟩ : ∃ q : Nat, n = q := ⟨n.toNat, by have := (f1 rfl).1; omega⟩
    exact ⟨.var q, ⟨by have := f1 rfl; simp [Ty.P.ok]; omega, rfl, rfl, rfl, ⟨⟨_, _, rfl⟩, ⟨_, _, rfl⟩⟩⟩, by simpa [sumP, Ty.P.parts] using hs, by simp [Ty.P.parts]⟩
  have n0 := f2 k0
  subst n0
  by_cases k6 : k = 6
  · subst k6
    have hl2 : la = 2 := by have : (la : Int) = 2 := by simpa using hk
                            omega
    subst hl2
    match l, hl with
    | [a, b], _ =>
      obtain ⟨g, of, rfl⟩ := hA (by omega)
      obtain ⟨a1, os1, az1, a2, a3⟩ := he g of rfl 0 (by simp)
      obtain ⟨b1, os2, az2, b2, b3⟩ := he g of rfl 1 (by simp)
      obtain ⟨q, rfl⟩ : ∃ q : Nat, r = q := ⟨r.toNat, by omega⟩
      have hsum : s = ((1 + o.length + a.parts + b.parts : Nat) : Int) := by rw [hs]; simp [sumP]; omega
      have h3 := h300 (by simp)
      refine ⟨.fn a b o q, ⟨⟨a1, b1, by omega, hpp.1, hpp.2⟩, rfl, rfl, rfl, ⟨hO, g, of, ca, os1, az1, os2, az2, rfl, hla, by simpa using a2, a3, by simpa using b2, b3⟩⟩, by simpa [Ty.P.parts] using hsum, by simp only [Ty.P.parts]; omega⟩
  obtain ⟨g1, rfl⟩ := f3 k6
  have o0 : o = [] := List.length_eq_zero_iff.1 g1
  subst o0
  by_cases k4 : k = 4
  · subst k4
    have hl2 : la = 1 := by have : (la : Int) = 1 := by simpa using hk
                            omega
    subst hl2
    match l, hl with
    | [a], _ =>
      obtain ⟨g, of, rfl⟩ := hA (by omega)
      obtain ⟨a1, os1, az1, a2, a3⟩ := he g of rfl 0 (by simp)
      have hsum : s = ((1 + a.parts : Nat) : Int) := by rw [hs]; simp [sumP]
      have h3 := h300 (by simp)
      refine ⟨.list a, ⟨a1, rfl, rfl, rfl, ⟨⟨_, _, rfl⟩, g, of, ca, os1, az1, rfl, hla, by simpa using a2, a3⟩⟩, by simpa [Ty.P.parts] using hsum, by simp only [Ty.P.parts]; omega⟩
  by_cases k5 : k = 5
  · subst k5
    have hl2 : la = 2 := by have : (la : Int) = 2 := by simpa using hk
                            omega
    subst hl2
    match l, hl with
    | [a, b], _ =>
      obtain ⟨g, of, rfl⟩ := hA (by omega)
      obtain ⟨a1, os1, az1, a2, a3⟩ := he g of rfl 0 (by simp)
      obtain ⟨b1, os2, az2, b2, b3⟩ := he g of rfl 1 (by simp)
      have hsum : s = ((1 + a.parts + b.parts : Nat) : Int) := by rw [hs]; simp [sumP]; omega
      have h3 := h300 (by simp)
      refine ⟨.pair a b, ⟨⟨a1, b1⟩, rfl, rfl, rfl, ⟨⟨_, _, rfl⟩, g, of, ca, os1, az1, os2, az2, rfl, hla, by simpa using a2, a3, by simpa using b2, b3⟩⟩, by simpa [Ty.P.parts] using hsum, by simp only [Ty.P.parts]; omega⟩
  have kk : k = 1 ∨ k = 2 ∨ k = 3 := by
    simp [k0, k4, k5, k6] at hk
    by_cases h1 : k = 1
    · exact .inl h1
    · by_cases h2 : k = 2
      · exact .inr (.inl h2)
      · by_cases h3 : k = 3
        · exact .inr (.inr h3)
        · simp [h1, h2, h3] at hk
  have hl0 : la = 0 := by
    rcases kk with rfl | rfl | rfl <;> (have : (la : Int) = 0 := by simpa using hk) <;> omega
  subst hl0
  obtain rfl : l = [] := List.length_eq_zero_iff.1 hl
  have hs1 : s = 1 := by simpa [sumP] using hs
  rcases kk with rfl | rfl | rfl
  · exact ⟨.int, ⟨trivial, rfl, rfl, rfl, ⟨⟨_, _, rfl⟩, ⟨_, _, rfl⟩⟩⟩, by simpa [Ty.P.parts] using hs1, by simp [Ty.P.parts]⟩
  · exact ⟨.bool, ⟨trivial, rfl, rfl, rfl, ⟨⟨_, _, rfl⟩, ⟨_, _, rfl⟩⟩⟩, by simpa [Ty.P.parts] using hs1, by simp [Ty.P.parts]⟩
  · exact ⟨.unit, ⟨trivial, rfl, rfl, rfl, ⟨⟨_, _, rfl⟩, ⟨_, _, rfl⟩⟩⟩, by simpa [Ty.P.parts] using hs1, by simp [Ty.P.parts]⟩

set_option maxRecDepth 100000 in
set_option maxHeartbeats 4000000 in
theorem proper_main (j : Nat) (hj : j ≤ 300) (hI : ProperOK j) (w0 w : World) (hw0 : Below w0.heap.size w0 w) (k n r : Int) (o : List (List UInt8)) (ao aa : Option Addr) (co la ca : Nat)
    (hO : OpsV w0 (.slice ao o.length co) o) (hla : la ≤ ca)
    (hA : la ≠ 0 → ∃ g o, aa = some ⟨g, o, none⟩ ∧ ∀ i, i < la → ∃ k m r os' az', El w0 g (o + i * 5) k m r os' az' ∧ Rdb w0 j os' az')
    (ha : (la : Int) = argsN k) (hl : ¬ 300 < o.length) (hf : fine k n r o.length) :
    Calls Try.prog 13 #[.agg #[.int .i64 k, .int .i64 n, .int .i64 r, .slice ao o.length co, .slice aa la ca], .int .i64 (300 - (j : Int))] w
      fun en w' => PropPost w0 w k n r (.slice ao o.length co) (.slice aa la ca) (300 - (j : Int)) en w' := by
  have hdd : decide (300 < 300 - (j : Int)) = false := by simp; omega
  have hab : ((la : Int) != argsN k) = false := by simpa using ha
  have hlb : decide ((300 : Int) < (o.length : Int)) = false := by simp; omega
  have hla2 : la ≤ 2 := by have := argsN_le k; omega
  have HA := hid hA
  have HW := hid hw0
  have hws := hw0.size
  clear hw0
  have HO := hid hO
  have HI := hid hI
  obtain ⟨F, hFF⟩ : ∃ F : Ty.P → Prop, F = Fits w0 k n r (.slice ao o.length co) (.slice aa la ca) := ⟨_, rfl⟩
  have HNS : Hid (∀ t : Ty.P, F t → t.ops = o) := fun t ht => by rw [hFF] at ht; exact ht.ops rfl hO
  have HNE : Hid (∀ m (h : m < o.length), o[m] = [] → ∀ t : Ty.P, ¬ F t) := fun m h he t ht => by
    have h0 := HNS.out t ht
    rw [hFF] at ht
    have h1 := (ok_ops ht.1).1
    rw [h0] at h1
    exact h1 _ (List.getElem_mem h) he
  have HNO : Hid (∀ m (h : m + 1 < o.length), o[m + 1] < o[m] → ∀ t : Ty.P, ¬ F t) := fun m h he t ht => by
    have h0 := HNS.out t ht
    rw [hFF] at ht
    have h1 := (ok_ops ht.1).2
    rw [h0] at h1
    exact inOrder_at h1 h he
  have HKD : Hid (∀ t : Ty.P, F t → t.kids.length = la ∧ ∀ g o, aa = some ⟨g, o, none⟩ → elsOK w0 g o t.kids) := fun t ht => by
    rw [hFF] at ht
    exact ⟨ht.kids.1, ht.kids.2.2⟩
  have HFF : Hid (∀ t : Ty.P, Fits w0 k n r (.slice ao o.length co) (.slice aa la ca) t → F t) := fun t ht => by rw [hFF]; exact ht
  clear hFF
  have HF := hid hf
  have HK := hid ha
  have hlo : o.length ≤ 300 := by omega
  obtain ⟨lo, hlo2⟩ : ∃ lo, lo = o.length := ⟨_, rfl⟩
  rw [← hlo2] at hlb hlo hl hf
  rw [← hlo2]
  have HL := hid hlo2
  clear hA hO hI ha hlo2
  go_enter Try.func13, Try.ntmps13
  go_wp2_with fail
  go_quiet ((go_at_call 22; exact Calls.quiet_of_same (args_any _ _)))
  have hc : (k = 0 ∧ ¬ n < 1 ∧ ¬ 1000000000 < n ∧ ¬ 0 < lo ∧ r = 0) ∨ (k ≠ 0 ∧ k ≠ 6 ∧ n = 0 ∧ ¬ 0 < lo ∧ r = 0) ∨ (k = 6 ∧ n = 0 ∧ ¬ r < 0 ∧ ¬ 1000000000 < r) := by
    unfold fine at hf
    by_cases k0 : k = 0
    · subst k0; simp at hf ⊢; omega
    · by_cases k6 : k = 6
      · subst k6; simp at hf ⊢; omega
      · simp [k0, k6] at hf ⊢; omega
  clear hf
  rcases hc with ⟨rfl, h1, h2, h3, rfl⟩ | ⟨k0, k6, rfl, h3, rfl⟩ | ⟨rfl, rfl, h1, h2⟩
  all_goals go_wp2_with fail
  all_goals
    go_loopw [8] (fun t wr => ∃ m : Nat, t = .int .i64 m ∧ m ≤ lo ∧ Hid (PSt w wr ao aa lo co la ca) ∧ Hid (opsOK o m)) (fun t _ => lo - (intOf t).toNat)
    case atStart => exact ⟨0, rfl, Nat.zero_le _, PSt.start .., by simp [Hid, opsOK, Ty.inOrder]⟩
  all_goals
    obtain ⟨m, rfl, hm, HS, HP⟩ := hrel
    have c3 := HS.out.c3
    have HB0 := hid (HW.out.trans (HS.out.bel.mono HW.out.size))
    have c4 := HS.out.c4
  all_goals by_cases hlt : m < lo
  any_goals (exfalso; omega)
  rotate_left 2
  · have hlt2 : m < o.length := by rw [← HL.out]; exact hlt
    obtain ⟨g, ko, hao, hcell⟩ := (HO.out.carry HB0.out.block).cells (by intro h; rw [h] at hlt2; simp at hlt2)
    subst hao
    have HC := hid hcell
    clear hcell
    by_cases he : o[m] = []
    · have ce := HC.out m hlt2
      rw [he] at ce
      go_wp2_with fail
      go_quiet (fail)
      go_wp2_with fail
      go_ret2
      exact prop_no (fun t ht => absurd (HFF.out t (by rw [← HL.out]; exact ht)) (HNE.out m hlt2 he t)) (by repeat (with_reducible (first | exact HS.out.bel | apply Below.drew | apply below_dn)))
    · cases m with
      | zero =>
        have ce := HC.out 0 hlt2
        simp only [Nat.add_zero] at ce
        have HX1 := hid (ops_one (o := o) hlt2 he)
        obtain ⟨x, hx⟩ : ∃ x, x = o[0] := ⟨_, rfl⟩
        rw [← hx] at ce he
        clear hx
        have hee : (x == ([] : List UInt8)) = false := by simpa using he
        go_wp2_with fail
        go_quiet (fail)
        go_wp2_with fail
        go_roundw
        case rel => exact ⟨1, by go_num, by omega, HS.out.drewN _, HX1⟩
        case measure => simp [intOf]; omega
      | succ m =>
        have ce := HC.out (m + 1) hlt2
        have cp := HC.out m (by omega)
        have HN := hid (ops_next (o := o) hlt2 he HP.out)
        have HXY := hid (HNO.out m hlt2)
        obtain ⟨x, hx⟩ : ∃ x, x = o[m + 1] := ⟨_, rfl⟩
        obtain ⟨y, hy⟩ : ∃ y, y = o[m] := ⟨_, rfl⟩
        rw [← hx] at ce he
        rw [← hy] at cp
        rw [← hx, ← hy] at HN HXY
        clear hx hy
        have hee : (x == ([] : List UInt8)) = false := by simpa using he
        have hpos : decide (0 < (m : Int) + 1) = true := by simp
        by_cases hxy : x < y
        · have hg : (!Op.bytesLess y x && !(y == x)) = true := by
            rw [bytesLess_eq]
            have h1 : ¬ y < x := List.lt_asymm hxy
            have h2 : ¬ y = x := by rintro rfl; exact List.lt_irrefl _ hxy
            simp [h1, h2]
          go_wp2_with fail
          go_quiet (fail)
          go_wp2_with fail
          go_ret2
          exact prop_no (fun t ht => absurd (HFF.out t (by rw [← HL.out]; exact ht)) (HXY.out hxy t)) (by repeat (with_reducible (first | exact HS.out.bel | apply Below.drew | apply below_dn)))
        · have hg : (!Op.bytesLess y x && !(y == x)) = false := by
            rw [bytesLess_eq]
            by_cases h2 : y = x
            · simp [h2]
            · have h1 : y < x := by
                rcases Decidable.em (y < x) with h | h
                · exact h
                · exact absurd (List.le_antisymm (List.not_lt.1 hxy) (List.not_lt.1 h)) h2
              simp [h1]
          go_wp2_with fail
          go_quiet (fail)
          go_wp2_with fail
          go_roundw
          case rel => exact ⟨m + 2, by go_num, by omega, HS.out.drewN _, HN.out hxy⟩
          case measure => simp [intOf]; omega
  all_goals
    have hme : m = lo := by omega
    have HP2 : Hid (opsOK o lo) := by rw [← hme]; exact HP
    clear hme HP
    go_wp2_with fail
    clear hlt hm
    go_loopw [9, 10] (fun c t wq => ∃ (l : List Ty.P) (s : Int), t = .int .i64 l.length ∧ c = .int .i64 s ∧ l.length ≤ la ∧ 0 ≤ s ∧ s ≤ 301 ∧ Hid (s = ((1 + lo + sumP l : Nat) : Int)) ∧ Hid (l ≠ [] → s ≤ 300) ∧ Hid (PSt w wq ao aa lo co la ca) ∧ Hid (∀ g o, aa = some ⟨g, o, none⟩ → elsOK w0 g o l)) (fun _ t _ => la - (intOf t).toNat)
    case atStart => exact ⟨[], 1 + lo, rfl, rfl, Nat.zero_le _, by omega, by omega, by simp [Hid, sumP], fun h => absurd rfl h, HS, fun _ _ _ i hi => absurd hi (by simp)⟩
  all_goals
    obtain ⟨l, s, rfl, rfl, hl1, hs0, hs1, HSU, HS3, HS2, HE⟩ := hrel
    have d4 := HS2.out.c4
  all_goals
    by_cases hlt : l.length < la
    · obtain ⟨g, of, haa, hel⟩ := HA.out (by omega)
      obtain ⟨k', m', r', os', az', hE1, hR1⟩ := hel l.length hlt
      subst haa
      have hgl := hE1.lt
      have HB1 := hid (HW.out.trans (HS2.out.bel.mono HW.out.size))
      have HE2 := hid (hE1.of_heap (HB1.out.block g hgl))
      have HE1 := hid hE1
      have HR := hid hR1
      clear hel hE1 hR1
      obtain ⟨e0, e1, e2, e3, e4⟩ := HE2.out
      go_wp2_with fail
      rw [show (300 - (j : Int) + 1) = 301 - (j : Int) by omega]
      refine (HI.out w0 _ k' m' r' os' az' HB1.out HR.out).mono ?_
      rintro en w2 ⟨c, ok, rfl, hb2, hok, hno⟩
      have HB2 := hid hb2
      have HOK := hid hok
      have HNO2 := hid hno
      have HT := hid (HS2.out.past hb2)
      clear hb2 hok hno
      cases ok with
      | false =>
        have HNK : Hid (∀ t : Ty.P, F t → 300 < (t.parts : Int) + (300 - (j : Int))) := fun t ht => by
          obtain ⟨u1, u3⟩ := HKD.out t ht
          have hi : l.length < t.kids.length := by omega
          have h1 := HNO2.out rfl _ ((u3 g of rfl).fits hi HE1.out)
          have h2 := kids_parts t
          have h3 := sumP_mem hi
          omega
        go_wp2_with fail
        go_ret2
        exact prop_no (fun t ht => HNK.out t (HFF.out t (by rw [← HL.out]; exact ht))) (by repeat (with_reducible (first | exact HT.out.bel | apply Below.drew | apply below_dn)))
      | true =>
        obtain ⟨t, ⟨ht1, ht2, ht3, ht4, ht5⟩, ht6, ht7⟩ := HOK.out rfl
        subst ht2 ht3 ht4 ht6
        have HTT : Hid (t.ok ∧ ElT w0 g (of + l.length * 5) t os' az' ∧ IsT w0 t os' az') := ⟨ht1, HE1.out, ht5⟩
        clear ht1 ht5 HOK HNO2
        have hpp := t.parts_pos
        obtain ⟨q, hq⟩ : ∃ q, q = t.parts := ⟨_, rfl⟩
        rw [← hq] at ht7 hpp ⊢
        have HQ := hid hq
        have HNQ : Hid (300 < s + (q : Int) → ∀ t' : Ty.P, F t' → 300 < (t'.parts : Int) + (300 - (j : Int))) := fun hs t' ht' => by
          obtain ⟨u1, u3⟩ := HKD.out t' ht'
          have hi : l.length < t'.kids.length := by omega
          have h1 := (u3 g of rfl).fits hi HE1.out
          have h2 := h1.one ⟨HTT.out.1, rfl, rfl, rfl, HTT.out.2.2⟩
          have h3 := (HE.out g of rfl).pre (u3 g of rfl) (by omega)
          have h4 := sumP_take t'.kids (l.length + 1)
          rw [List.take_succ_eq_append_getElem hi, sumP_snoc, h2, ← h3] at h4
          have h5 := kids_parts t'
          rw [HNS.out t' ht'] at h5
          have h6 := HSU.out
          have h7 := HL.out
          omega
        clear hq
        by_cases h300 : 300 < s + (q : Int)
        · go_wp2_with fail
          go_ret2
          exact prop_no (fun t ht => HNQ.out h300 t (HFF.out t (by rw [← HL.out]; exact ht))) (by repeat (with_reducible (first | exact HT.out.bel | apply Below.drew | apply below_dn)))
        · go_wp2_with fail
          go_roundw
          case rel =>
            refine ⟨l ++ [t], s + q, by rw [List.length_append]; go_num, rfl, by simp; omega, by omega, by omega, ?_, fun _ => by omega, HT, ?_⟩
            · have h1 := HSU.out
              have h2 := HQ.out
              simp only [Hid, sumP_snoc]
              omega
            · intro g' o' hgo i hi
              obtain ⟨u1, u2, u3⟩ := HTT.out
              by_cases hil : i < l.length
              · rw [List.getElem_append_left hil]
                exact HE.out g' o' hgo i hil
              · have e : i = l.length := by simp at hi; omega
                subst e
                rw [List.getElem_append_right (Nat.le_refl _)]
                simp only [Option.some.injEq, Addr.mk.injEq] at hgo
                obtain ⟨rfl, rfl, _⟩ := hgo
                simp only [Nat.sub_self, List.getElem_singleton]
                exact ⟨u1, os', az', u2, u3⟩
          case measure => simp [intOf]; omega
    · go_wp2_with fail
      go_ret2
      have hol := HL.out
      subst hol
      exact prop_yes HF.out HK.out HO.out HP2.out (by omega) (fun h => let ⟨g, o, h1, _⟩ := HA.out h; ⟨g, o, h1⟩) HE.out hla HSU.out HS3.out (by repeat (with_reducible (first | exact HS2.out.bel | apply Below.drew | apply below_dn))) _

theorem proper_any : ∀ (j : Nat), j ≤ 301 → ProperOK j := by
  intro j
  induction j with
  | zero => intro _ w0 w k n r os az _ _; exact proper_deep w0 w k n r _ os az (by omega)
  | succ j ih =>
    intro hj w0 w k n r os az hw hR
    obtain ⟨⟨o, hO⟩, aa, la, ca, rfl, hla, hA⟩ := hR
    obtain ⟨ao, co, rfl, _⟩ := id hO
    rw [show (301 - ((j + 1 : Nat) : Int)) = 300 - (j : Int) by omega]
    have hd : ¬ 300 < 300 - (j : Int) := by omega
    by_cases ha : (la : Int) = argsN k
    · by_cases hl : 300 < o.length
      · exact proper_many w0 w k n r _ ao aa o co hO la ca (by omega) hd ha hl
      · by_cases hf : fine k n r o.length
        · exact proper_main j (by omega) (ih (by omega)) w0 w hw k n r o ao aa co la ca hO hla hA ha hl hf
        · exact proper_odd w0 w k n r _ ao aa o co hO la ca (by omega) hd ha hl hf
    · exact proper_args w0 w k n r _ ao aa _ co la ca hd ha

end Go.Proofs.Ytcogpcalghfghaa

namespace Go.Proofs.Ytcogpcalghfghaa
open Go.RowKit

/-- Is a type proper, as cells say it? -/
def IsProp (w : World) (k n r : Int) (os az : Value) : Prop := ∃ t : Ty.P, Fits w k n r os az t ∧ t.parts ≤ 300
/-- The document's Proper: true just of a type that is proper. -/
def ProperPost (w : World) (k n r : Int) (os az : Value) (en : Ending) (w' : World) : Prop :=
  ∃ ok : Bool, en = .returned (.bool ok) ∧ Below w.heap.size w w' ∧ (ok = true ↔ IsProp w k n r os az)
set_option maxHeartbeats 1000000 in
theorem proper_top (w : World) (k n r : Int) (os az : Value) (h : Rdb w 301 os az) :
    Calls Try.prog 5 #[.agg #[.int .i64 k, .int .i64 n, .int .i64 r, os, az]] w fun en w' => ProperPost w k n r os az en w' := by
  have H := hid h
  clear h
  go_enter Try.func5, Try.ntmps5
  go_wp2_with fail
  refine (proper_any 301 (Nat.le_refl _) w _ k n r os az ((Below.refl _ _).alloc (Nat.le_refl _) _) H.out).mono ?_
  rintro en w2 ⟨c, ok, rfl, hb, hok, hno⟩
  have HB := hid ((Below.alloc (Below.refl w.heap.size w) (Nat.le_refl _) _).trans (hb.mono (by simp)))
  have HK := hid hok
  have HN := hid hno
  clear hb hok hno
  cases ok with
  | false =>
    go_wp2
    go_ret
    exact ⟨false, rfl, HB.out, ⟨fun h => (by cases h), fun ⟨t, h1, h2⟩ => by have := HN.out (by trivial) t h1; omega⟩⟩
  | true =>
    obtain ⟨t, ht, t6, t7⟩ := HK.out rfl
    subst t6
    have HT := hid ht
    clear ht HK HN
    have h7 : (t.parts : Int) ≤ 300 := by omega
    go_wp2
    go_ret
    exact ⟨_, rfl, HB.out, ⟨fun _ => ⟨t, HT.out, t7⟩, fun _ => rfl⟩⟩
end Go.Proofs.Ytcogpcalghfghaa
