/-
  The program's proper: what it asks of a type alone.
  The program's proper: any type.
-/
import Derived.Test.YtcogpcalghfghaaVa
import Derived.Test.YtcogpcalghfghaaShelf
import Derived.Test.YtcogpcalghfghaaMEc
set_option linter.unusedVariables false
set_option linter.unusedSimpArgs false
namespace Go.Proofs.Ytcogpcalghfghaa
open Go.RowKit Go.Shelf

/-- A test is answered. -/
def BoolP (P : Prop) (w : World) (e : Ending) (w' : World) : Prop := ∃ b : Bool, e = .returned (.bool b) ∧ (b = true ↔ P) ∧ Below w.heap.size w w'
theorem pret {a b : Bool} (h : a = b) : Ending.returned (.bool a) = .returned (.bool b) := by rw [h]
set_option maxHeartbeats 1000000 in
theorem nan_any (x : List UInt8) (w : World) : Calls Try.prog 85 #[.string ⟨x.toArray⟩] w fun e w' => e = .returned (.bool false) ∧ w' = w := by
  go_enter Try.func85, Try.ntmps85
  go_wp2
  go_ret
  exact ⟨pret (by simp), rfl⟩
set_option maxHeartbeats 1000000 in
theorem pless_any (x y : List UInt8) (w : World) : Calls Try.prog 65 #[.string ⟨x.toArray⟩, .string ⟨y.toArray⟩] w fun e w' => e = .returned (.bool (decide (x < y))) ∧ w' = w := by
  have hl := bytesLess_eq x y
  go_enter Try.func65, Try.ntmps65
  go_wp2_with (first | (go_at_call 85; refine (nan_any _ _).mono ?_; rintro e w' ⟨rfl, rfl⟩))
  go_ret
  exact ⟨pret (by simp), rfl⟩
theorem inOrder_iff : ∀ (o : List (List UInt8)), Ty.inOrder o ↔ ∀ i (h : i + 1 < o.length), ¬ o[i + 1] < o[i] := by
  intro o
  induction o with
  | nil => simp [Ty.inOrder]
  | cons x r ih =>
    cases r with
    | nil => simp [Ty.inOrder]
    | cons y r =>
      constructor
      · intro ho i h
        cases i with
        | zero => exact ho.1
        | succ i => exact ih.1 ho.2 i (by simpa using h)
      · intro h
        exact ⟨h 0 (by simp), ih.2 (fun i hi => h (i + 1) (by simpa using hi))⟩

set_option maxRecDepth 100000 in
set_option maxHeartbeats 4000000 in
theorem psorted_any (a : Option Addr) (c : Nat) (o : List (List UInt8)) (w : World) (hO : OpsV w (.slice a o.length c) o) (hl : o.length ≤ 300) :
    Calls Try.prog 54 #[.slice a o.length c] w fun e w' => BoolP (Ty.inOrder o) w e w' := by
  have HO := hid hO
  obtain ⟨lo, hlo⟩ : ∃ lo, lo = o.length := ⟨_, rfl⟩
  rw [← hlo] at hl ⊢
  have HL := hid hlo
  clear hO hlo
  go_enter Try.func54, Try.ntmps54
  go_wp2_with fail
  go_loopw [3] (fun t wr => ∃ (m : Int) (q : Nat), t = .int .i64 m ∧ -1 ≤ m ∧ m < lo ∧ wr = w.drewN q ∧ Hid (∀ i (h : i + 1 < o.length), m ≤ i → ¬ o[i + 1] < o[i])) (fun t _ => (intOf t).toNat)
  case atStart => exact ⟨lo - 1, 0, rfl, by omega, by omega, rfl, hid (fun i h1 h2 => by have := HL.out; omega)⟩
  case round =>
    obtain ⟨m, q, rfl, hm1, hm2, rfl, HI⟩ := hrel
    by_cases hpos : 0 < m
    · obtain ⟨j, rfl⟩ : ∃ j : Nat, m = ((j + 1 : Nat) : Int) := ⟨(m - 1).toNat, by omega⟩
      have hj : j + 1 < o.length := by rw [← HL.out]; omega
      obtain ⟨g, k, ha, hcell⟩ := HO.out.cells (by intro h; rw [h] at hj; simp at hj)
      subst ha
      have c1 := hcell (j + 1) hj
      have c2 := hcell j (by omega)
      have HN : Hid (∀ (b : Bool), decide (o[j + 1] < o[j]) = b → (b = true → ¬ Ty.inOrder o) ∧ (b = false → ∀ i (h : i + 1 < o.length), (j : Int) ≤ i → ¬ o[i + 1] < o[i])) := hid (fun b hb => ⟨fun hbt hio => by
        rw [hbt] at hb
        exact (inOrder_iff o).1 hio j hj (by simpa using hb), fun hbf i h1 h2 => by
        rw [hbf] at hb
        by_cases e : i = j
        · subst e; simpa using hb
        · exact HI.out i h1 (by omega)⟩)
      have hj2 : j + 1 < lo := by omega
      have hj3 : j < lo := by omega
      have hi1 : (0 : Int) ≤ (j : Int) + 1 := by omega
      have hi2 : (j : Int) + 1 < (lo : Int) := by omega
      have hi3 : (0 : Int) ≤ (j : Int) + 1 - 1 := by omega
      have hi4 : (j : Int) + 1 - 1 < (lo : Int) := by omega
      have hi5 : (j : Int) < (lo : Int) := by omega
      have hi6 : IntKind.i64.wrap (j : Int) = (j : Int) := by rw [IntKind.wrap_i64]; omega
      clear hm1 hm2 HI
      generalize o[j + 1] = x at c1 HN
      generalize o[j] = y at c2 HN
      clear hcell
      cases hd : decide (x < y) with
      | false =>
        have h2 := hid ((HN.out false hd).2 rfl)
        clear HN
        go_wp2_with fail
        go_region_held3 (fun w' => w'.cell? ⟨g, k + (j + 1), none⟩ = some (.string ⟨x.toArray⟩) ∧ w'.cell? ⟨g, k + j, none⟩ = some (.string ⟨y.toArray⟩)) (go_keep)
          ((go_at_call 65; refine (pless_any x y _).mono ?_; rintro e w' ⟨rfl, rfl⟩; rw [hd]))
        all_goals
          go_wp2_with fail
          go_roundw
          case rel => exact ⟨j, _, by go_num, by omega, by omega, rfl, h2⟩
          case measure => simp [intOf] <;> omega
      | true =>
        have h2 := hid ((HN.out true hd).1 rfl)
        clear HN
        go_wp2_with fail
        go_region_held3 (fun w' => w'.cell? ⟨g, k + (j + 1), none⟩ = some (.string ⟨x.toArray⟩) ∧ w'.cell? ⟨g, k + j, none⟩ = some (.string ⟨y.toArray⟩)) (go_keep)
          ((go_at_call 65; refine (pless_any x y _).mono ?_; rintro e w' ⟨rfl, rfl⟩; rw [hd]))
        all_goals
          go_wp2_with fail
          go_ret
          exact ⟨false, rfl, ⟨fun h => (by cases h), fun h => absurd h h2.out⟩, below_dn (Below.refl _ _) _⟩
    · go_wp2_with fail
      go_ret
      exact ⟨true, rfl, ⟨fun _ => (inOrder_iff o).2 (fun i h => HI.out i h (by omega)), fun _ => rfl⟩, below_dn (Below.refl _ _) _⟩
theorem pcontains_any (a : Option Addr) (c : Nat) (o : List (List UInt8)) (w : World) (hO : OpsV w (.slice a o.length c) o) (hl : o.length ≤ 300) :
    Calls Try.prog 53 #[.slice a o.length c, .string ⟨#[]⟩] w fun e w' => ∃ b : Bool, e = .returned (.bool b) ∧ (b = false ↔ ∀ x ∈ o, x ≠ []) ∧ w' = w := by
  by_cases h0 : o = []
  · subst h0
    refine (Try.slices_Contains_string_empty a c _ w).mono ?_
    rintro e w' ⟨rfl, rfl⟩
    exact ⟨false, rfl, by simp, rfl⟩
  · obtain ⟨g, k, ha, hcell⟩ := hO.cells h0
    subst ha
    have hm : (o.map fun x => (⟨x.toArray⟩ : ByteArray)).length = o.length := by simp
    have := Try.slices_Contains_string g k o.length c (o.map fun x => (⟨x.toArray⟩ : ByteArray)) ⟨#[]⟩ w (by rw [hm]; exact Nat.le_refl _) (by omega) (fun j hj => by
      rw [hm] at hj
      rw [hcell j hj]
      simp [List.getD, hj])
    refine this.mono ?_
    rintro e w' ⟨rfl, rfl⟩
    refine ⟨_, rfl, ?_, rfl⟩
    rw [Bool.eq_false_iff, ne_eq, Lib.containsS_iff]
    have ht : (o.map fun x => (⟨x.toArray⟩ : ByteArray)).take o.length = o.map fun x => (⟨x.toArray⟩ : ByteArray) := List.take_of_length_le (by simp)
    rw [ht]
    constructor
    · intro h x hx e
      subst e
      exact h (List.mem_map.2 ⟨[], hx, rfl⟩)
    · intro h hmem
      obtain ⟨x, hx, he⟩ := List.mem_map.1 hmem
      have : x = [] := by have h2 := congrArg (fun b : ByteArray => b.data.toList) he; simpa using h2
      exact h x hx this
def argsP (k : Int) : Int := if k = 4 then 1 else if k = 5 ∨ k = 6 then 2 else 0
set_option maxHeartbeats 1000000 in
theorem pargs_any (k : Int) (w : World) : Calls Try.prog 42 #[.int .i64 k] w fun e w' => e = .returned (.int .i64 (argsP k)) ∧ w' = w := by
  unfold argsP
  go_enter Try.func42, Try.ntmps42
  go_wp2
  all_goals go_ret
  all_goals simp_all
def numOK (k n : Int) : Prop := (k = 0 → 1 ≤ n ∧ n ≤ 1000000000) ∧ (k ≠ 0 → n = 0)
set_option maxHeartbeats 1000000 in
theorem pnumber_any (k n r : Int) (os az : Value) (w : World) : Calls Try.prog 43 #[.agg #[.int .i64 k, .int .i64 n, .int .i64 r, os, az]] w fun e w' => BoolP (numOK k n) w e w' := by
  have hb := hid ((Below.refl w.heap.size w).alloc (Nat.le_refl _) (.cells #[.int .i64 k, .int .i64 n, .int .i64 r, os, az] 27))
  by_cases h0 : k = 0
  · subst h0
    by_cases h1 : 1 ≤ n
    · go_enter Try.func43, Try.ntmps43
      go_wp2
      go_ret
      exact ⟨_, rfl, by unfold numOK; simp; omega, hb.out⟩
    · go_enter Try.func43, Try.ntmps43
      go_wp2
      go_ret
      exact ⟨_, rfl, by unfold numOK; simp; omega, hb.out⟩
  · have hk : (k != 0) = true := by simpa using h0
    go_enter Try.func43, Try.ntmps43
    go_wp2
    go_ret
    exact ⟨_, rfl, by unfold numOK; simp [h0], hb.out⟩
def rowOK (k r : Int) (o : List (List UInt8)) : Prop := (k ≠ 6 → o = [] ∧ r = 0) ∧ (k = 6 → 0 ≤ r ∧ r ≤ 1000000000 ∧ (∀ x ∈ o, x ≠ []) ∧ Ty.inOrder o)
set_option maxHeartbeats 4000000 in
theorem prow_any (k n r : Int) (a : Option Addr) (c : Nat) (o : List (List UInt8)) (az : Value) (w : World) (hO : OpsV w (.slice a o.length c) o) (hl : o.length ≤ 300) :
    Calls Try.prog 44 #[.agg #[.int .i64 k, .int .i64 n, .int .i64 r, .slice a o.length c, az]] w fun e w' => BoolP (rowOK k r o) w e w' := by
  have hb0 := (Below.refl w.heap.size w).alloc (Nat.le_refl _) (.cells #[.int .i64 k, .int .i64 n, .int .i64 r, .slice a o.length c, az] 27)
  have hO1 := OpsV.carry hO hb0.block
  have HC := pcontains_any a c o _ hO1 hl
  have HS := psorted_any a c o _ hO1 hl
  have hb := hid hb0
  have hlI : (o.length : Int) ≤ 300 := by omega
  replace hO := hid hO
  clear hO1 hb0
  by_cases h6 : k = 6
  · subst h6
    by_cases h1 : r < 0
    · go_enter Try.func44, Try.ntmps44
      go_wp2
      go_ret
      exact ⟨_, rfl, by unfold rowOK; simp; omega, hb.out⟩
    · by_cases h2 : 1000000000 < r
      · go_enter Try.func44, Try.ntmps44
        go_wp2
        go_ret
        exact ⟨_, rfl, by unfold rowOK; simp; omega, hb.out⟩
      · go_enter Try.func44, Try.ntmps44
        go_wp2_with (first
          | (go_at_call 53; refine HC.mono ?_; clear HC; rintro e w2 ⟨b, rfl, hbb, hw2⟩; obtain rfl := hw2.symm; replace hbb := hid hbb)
          | (go_at_call 54; refine HS.mono ?_; clear HS; rintro e w3 ⟨b2, rfl, hb2, hbl⟩; replace hb2 := hid hb2; replace hbl := hid hbl))
        · go_ret
          rename_i hbt
          refine ⟨false, rfl, ⟨fun h => (by cases h), fun h => ?_⟩, hb.out⟩
          have := hbb.out.2 (h.2 rfl).2.2.1
          rw [hbt] at this
          cases this
        · go_ret
          rename_i hbt
          refine ⟨b2, rfl, ?_, hb.out.trans (hbl.out.mono (by simp))⟩
          rw [hb2.out]
          unfold rowOK
          exact ⟨fun h => ⟨fun h6 => absurd rfl h6, fun _ => ⟨by omega, by omega, hbb.out.1 (by simpa using hbt), h⟩⟩, fun h => (h.2 rfl).2.2.2⟩
  · have hk : (k != 6) = true := by simpa using h6
    by_cases h1 : o = []
    · subst h1
      go_enter Try.func44, Try.ntmps44
      go_wp2
      go_ret
      exact ⟨_, rfl, by unfold rowOK; simp [h6], hb.out⟩
    · have hl0 : ((o.length : Int) == 0) = false := by rw [beq_eq_false_iff_ne]; have := List.length_pos_iff.2 h1; omega
      go_enter Try.func44, Try.ntmps44
      go_wp2
      go_ret
      exact ⟨_, rfl, by unfold rowOK; simp [h6, h1], hb.out⟩
/-- What is asked of a type alone. -/
def aloneOK (k n r : Int) (o : List (List UInt8)) (la : Nat) : Prop := 0 ≤ k ∧ k ≤ 6 ∧ (la : Int) = argsP k ∧ numOK k n ∧ rowOK k r o
set_option maxRecDepth 100000 in
set_option maxHeartbeats 8000000 in
theorem palone_any (k n r : Int) (a : Option Addr) (c : Nat) (o : List (List UInt8)) (sa : Option Addr) (la ca : Nat) (w : World) (hO : OpsV w (.slice a o.length c) o) (hl : o.length ≤ 300) :
    Calls Try.prog 34 #[.agg #[.int .i64 k, .int .i64 n, .int .i64 r, .slice a o.length c, .slice sa la ca]] w fun e w' => BoolP (aloneOK k n r o la) w e w' := by
  have hb0 : ∀ q, Below w.heap.size w ((w.alloc (.cells #[.int .i64 k, .int .i64 n, .int .i64 r, .slice a o.length c, .slice sa la ca] 27)).drewN q) := fun q => below_dn ((Below.refl w.heap.size w).alloc (Nat.le_refl _) _) q
  have HA := fun w => pargs_any k w
  have HN := fun w => pnumber_any k n r (.slice a o.length c) (.slice sa la ca) w
  have HR := fun W (hW : Below w.heap.size w W) => prow_any k n r a c o (.slice sa la ca) W (OpsV.carry hO hW.block) hl
  replace hb0 := hid hb0
  replace hO := hid hO
  by_cases h1 : k < 0
  · have hd : decide (k < 0) = true := by simpa using h1
    go_enter Try.func34, Try.ntmps34
    go_upto_region 1 with (fail)
    go_quiet (fail)
    go_wp2
    go_ret
    exact ⟨false, rfl, ⟨fun h => (by cases h), fun h => by have := h.1; omega⟩, hb0.out _⟩
  · have hd1 : decide (k < 0) = false := by simpa using h1
    by_cases h2 : 6 < k
    · have hd : decide (6 < k) = true := by simpa using h2
      go_enter Try.func34, Try.ntmps34
      go_upto_region 1 with (fail)
      go_quiet (fail)
      go_wp2
      go_ret
      exact ⟨false, rfl, ⟨fun h => (by cases h), fun h => by have := h.2.1; omega⟩, hb0.out _⟩
    · have hd2 : decide (6 < k) = false := by simpa using h2
      by_cases h3 : (la : Int) = argsP k
      · have hd3 : ((la : Int) != argsP k) = false := by simpa using h3
        replace h3 := hid h3
        go_enter Try.func34, Try.ntmps34
        go_upto_region 1 with (fail)
        go_quiet (first | (go_at_call 42; exact Calls.quiet_of_same (HA _)))
        go_wp2_with (first
          | (go_at_call 43; refine (HN _).mono ?_; clear HN; rintro e w2 ⟨b1, rfl, hb1, hc1⟩; have hc2 := (hb0.out _).trans (hc1.mono (by simp)); have HR2 := HR w2 hc2; have hbx : Bx w2 w.heap.size k n r (.slice a o.length c) (.slice sa la ca) := (hc1.block w.heap.size (by simp)).trans (World.alloc_heap_new w _); obtain ⟨x0, x1, x2, x3, x4⟩ := hbx.cells; clear hbx; replace hb1 := hid hb1; replace hc2 := hid hc2; clear hc1)
          | (go_at_call 44; refine HR2.mono ?_; clear HR2; rintro e w3 ⟨b2, rfl, hb2, hc3⟩; replace hb2 := hid hb2; replace hc3 := hid (hc2.out.trans (hc3.mono hc2.out.size))))
        · go_ret
          rename_i hbt
          refine ⟨b2, rfl, ?_, hc3.out⟩
          rw [hb2.out]
          exact ⟨fun h => ⟨by omega, by omega, h3.out, hb1.out.1 hbt, h⟩, fun h => h.2.2.2.2⟩
        · go_ret
          rename_i hbt
          refine ⟨false, rfl, ⟨fun h => (by cases h), fun h => ?_⟩, hc2.out⟩
          exact absurd (hb1.out.2 h.2.2.2.1) (by simpa using hbt)
      · have hd3 : ((la : Int) != argsP k) = true := by simpa using h3
        replace h3 := hid h3
        go_enter Try.func34, Try.ntmps34
        go_upto_region 1 with (fail)
        go_quiet (first | (go_at_call 42; exact Calls.quiet_of_same (HA _)))
        go_wp2
        go_ret
        exact ⟨false, rfl, ⟨fun h => (by cases h), fun h => absurd h.2.2.1 h3.out⟩, hb0.out _⟩
end Go.Proofs.Ytcogpcalghfghaa

namespace Go.Proofs.Ytcogpcalghfghaa
open Go.RowKit Go.Shelf

/-- What can be read to a depth, no row of names longer than a slice is. -/
def Rdc (w : World) : Nat → Value → Value → Prop
  | 0, _, _ => True
  | n + 1, os, az => (∃ o : List (List UInt8), OpsV w os o ∧ o.length ≤ 9223372036854775807) ∧
      ∃ (a : Option Addr) (l c : Nat), az = .slice a l c ∧ l ≤ c ∧ (l ≠ 0 → ∃ g o, a = some ⟨g, o, none⟩ ∧ ∀ i, i < l → ∃ k m r os' az', El w g (o + i * 5) k m r os' az' ∧ Rdc w n os' az')
theorem Rdc.rdb {w : World} : ∀ {n : Nat} {os az : Value}, Rdc w n os az → Rdb w n os az := by
  intro n
  induction n with
  | zero => intro os az _; trivial
  | succ n ih =>
    rintro os az ⟨⟨o, h1, _⟩, a, l, c, h3, h4, h5⟩
    refine ⟨⟨o, h1⟩, a, l, c, h3, h4, fun hl => ?_⟩
    obtain ⟨g, o, ha, hc⟩ := h5 hl
    refine ⟨g, o, ha, fun i hi => ?_⟩
    obtain ⟨k, m, r, os', az', h6, h7⟩ := hc i hi
    exact ⟨k, m, r, os', az', h6, ih h7⟩
theorem Rdc.carry {w w' : World} (hw : ∀ b, b < w.heap.size → w'.heap[b]? = w.heap[b]?) : ∀ {n : Nat} {os az : Value}, Rdc w n os az → Rdc w' n os az := by
  intro n
  induction n with
  | zero => intro os az _; trivial
  | succ n ih =>
    rintro os az ⟨⟨o, h1, h2⟩, a, l, c, h3, h4, h5⟩
    refine ⟨⟨o, h1.carry hw, h2⟩, a, l, c, h3, h4, fun hl => ?_⟩
    obtain ⟨g, o, ha, hc⟩ := h5 hl
    refine ⟨g, o, ha, fun i hi => ?_⟩
    obtain ⟨k, m, r, os', az', h6, h7⟩ := hc i hi
    exact ⟨k, m, r, os', az', h6.of_heap (hw g h6.lt), ih h7⟩
/-- What partsLeft answers. -/
def PlP (w0 w : World) (k n r : Int) (os az : Value) (left : Int) (e : Ending) (w' : World) : Prop :=
  ∃ z : Int, e = .returned (.int .i64 z) ∧ Below w.heap.size w w' ∧ -1 ≤ z ∧ z ≤ left ∧ (∀ t : Ty.P, Fits w0 k n r os az t → (t.parts : Int) ≤ left → z = left - t.parts) ∧ (0 ≤ z → ∃ t : Ty.P, Fits w0 k n r os az t ∧ z = left - t.parts)
def PlOK (j : Nat) : Prop := ∀ (w0 w : World) (k n r : Int) (os az : Value) (left : Int), Below w0.heap.size w0 w → Rdc w0 (j + 1) os az → left ≤ j → left ≤ 300 → 0 ≤ left →
  Calls Try.prog 23 #[.agg #[.int .i64 k, .int .i64 n, .int .i64 r, os, az], .int .i64 left] w fun e w' => PlP w0 w k n r os az left e w'
theorem PlP.no {w0 w w' : World} {k n r : Int} {os az : Value} {left : Int} (h0 : 0 ≤ left) (hb : Below w.heap.size w w') (h : ∀ t : Ty.P, Fits w0 k n r os az t → left < (t.parts : Int)) : PlP w0 w k n r os az left (.returned (.int .i64 (-1))) w' :=
  ⟨-1, rfl, hb, by omega, by omega, fun t h1 h2 => absurd h2 (by have := h t h1; omega), fun h => by omega⟩
theorem alone_fine {k n r : Int} {o : List (List UInt8)} {la : Nat} (h : aloneOK k n r o la) : fine k n r o.length ∧ (la : Int) = argsN k ∧ opsOK o o.length := by
  obtain ⟨h1, h2, h3, h4, h5⟩ := h
  refine ⟨⟨h4.1, h4.2, fun h6 => ⟨by rw [(h5.1 h6).1]; rfl, (h5.1 h6).2⟩, ?_, ?_⟩, ?_, ?_⟩
  · by_cases e : k = 6
    · exact (h5.2 e).1
    · rw [(h5.1 e).2]; omega
  · by_cases e : k = 6
    · exact (h5.2 e).2.1
    · rw [(h5.1 e).2]; omega
  · rw [h3]
    unfold argsP argsN
    have : k = 0 ∨ k = 1 ∨ k = 2 ∨ k = 3 ∨ k = 4 ∨ k = 5 ∨ k = 6 := by omega
    rcases this with rfl | rfl | rfl | rfl | rfl | rfl | rfl <;> simp
  · by_cases e : k = 6
    · unfold opsOK
      rw [List.take_length]
      exact (h5.2 e).2.2
    · rw [(h5.1 e).1]
      exact ⟨by simp, trivial⟩
theorem fits_alone {w : World} {k n r : Int} {a : Option Addr} {c : Nat} {o : List (List UInt8)} {sa : Option Addr} {la ca : Nat} (hO : OpsV w (.slice a o.length c) o) {t : Ty.P} (h : Fits w k n r (.slice a o.length c) (.slice sa la ca) t) : aloneOK k n r o la := by
  have hf := h.fine rfl hO
  have hk := h.kids
  have ho := h.ops rfl hO
  have hoo := ok_ops h.1
  rw [ho] at hoo
  obtain ⟨f1, f2, f3, f4, f5⟩ := hf
  have hkind : 0 ≤ k ∧ k ≤ 6 ∧ argsN k = argsP k := by
    rw [h.2.1]
    cases t <;> simp [Ty.P.kind, argsN, argsP]
  refine ⟨hkind.1, hkind.2.1, by rw [hk.2.1, hkind.2.2], ⟨f1, f2⟩, fun h6 => ⟨List.length_eq_zero_iff.1 (f3 h6).1, (f3 h6).2⟩, fun _ => ⟨f4, f5, hoo.1, hoo.2⟩⟩

set_option maxRecDepth 100000 in
set_option maxHeartbeats 4000000 in
theorem parts_big (w0 w : World) (k n r : Int) (a : Option Addr) (c : Nat) (o : List (List UInt8)) (sa : Option Addr) (la ca : Nat) (left : Int) (hO : OpsV w0 (.slice a o.length c) o) (hm : o.length ≤ 9223372036854775807) (h0 : 0 ≤ left) (h300 : left ≤ 300)
    (hneg : left < 1 + (o.length : Int)) :
    Calls Try.prog 23 #[.agg #[.int .i64 k, .int .i64 n, .int .i64 r, .slice a o.length c, .slice sa la ca], .int .i64 left] w fun e w' => PlP w0 w k n r (.slice a o.length c) (.slice sa la ca) left e w' := by
  have hb0 := (Below.refl w.heap.size w).alloc (Nat.le_refl _) (.cells #[.int .i64 k, .int .i64 n, .int .i64 r, .slice a o.length c, .slice sa la ca] 27)
  have hno : ∀ t : Ty.P, Fits w0 k n r (.slice a o.length c) (.slice sa la ca) t → left < (t.parts : Int) := fun t ht => by
    have h1 := kids_parts t
    have h2 := ht.ops rfl hO
    rw [h2] at h1
    omega
  obtain ⟨y, hy⟩ : ∃ y, y = IntKind.i64.wrap (1 + (o.length : Int)) := ⟨_, rfl⟩
  obtain ⟨z, hz⟩ : ∃ z, z = IntKind.i64.wrap (left - y) := ⟨_, rfl⟩
  have hz0 : z < 0 := by
    rw [IntKind.wrap_i64] at hy hz
    omega
  have hd : decide (z < 0) = true := by simpa using hz0
  replace hno := hid hno
  replace hb0 := hid hb0
  clear hO hneg hm h300 hz0
  replace h0 := hid h0
  replace hy := hy.symm
  replace hz := hz.symm
  go_enter Try.func23, Try.ntmps23
  go_wp2
  go_ret
  exact PlP.no h0.out hb0.out hno.out

set_option maxRecDepth 100000 in
set_option maxHeartbeats 8000000 in
theorem parts_main {j : Nat} (ih : PlOK j) (w0 w : World) (k n r : Int) (a : Option Addr) (c : Nat) (o : List (List UInt8)) (aa : Option Addr) (la ca : Nat) (left : Int) (hw0 : Below w0.heap.size w0 w) (hO : OpsV w0 (.slice a o.length c) o) (hla : la ≤ ca)
    (hA : la ≠ 0 → ∃ g o, aa = some ⟨g, o, none⟩ ∧ ∀ i, i < la → ∃ k m r os' az', El w0 g (o + i * 5) k m r os' az' ∧ Rdc w0 (j + 1) os' az')
    (h0 : 0 ≤ left) (h300 : left ≤ 300) (hj : left ≤ j + 1) (hneg : 1 + (o.length : Int) ≤ left) :
    Calls Try.prog 23 #[.agg #[.int .i64 k, .int .i64 n, .int .i64 r, .slice a o.length c, .slice aa la ca], .int .i64 left] w fun e w' => PlP w0 w k n r (.slice a o.length c) (.slice aa la ca) left e w' := by
  have hb0 := (Below.refl w.heap.size w).alloc (Nat.le_refl _) (.cells #[.int .i64 k, .int .i64 n, .int .i64 r, .slice a o.length c, .slice aa la ca] 27)
  have HP := PSt.start w k n r a aa o.length c la ca 0
  rw [show ∀ W : World, W.drewN 0 = W from fun _ => rfl] at HP
  have HAL := fun W (hW : Below w.heap.size w W) => palone_any k n r a c o aa la ca W (OpsV.carry (OpsV.carry hO hw0.block) hW.block) (by omega)
  have hw1 : IntKind.i64.wrap (1 + (o.length : Int)) = 1 + (o.length : Int) := IntWalk.i64_in _ (by omega)
  obtain ⟨left1, hl1⟩ : ∃ l, l = left - (1 + (o.length : Int)) := ⟨_, rfl⟩
  have hw2 : wrap64 (left - (1 + (o.length : Int))) = left1 := by unfold wrap64; omega
  have hdn : decide (left1 < 0) = false := by simp; omega
  have HNO : Hid (¬ aloneOK k n r o la → ∀ t : Ty.P, Fits w0 k n r (.slice a o.length c) (.slice aa la ca) t → left < (t.parts : Int)) := fun h t ht => absurd (fits_alone hO ht) h
  have HKD : Hid (∀ t : Ty.P, Fits w0 k n r (.slice a o.length c) (.slice aa la ca) t → t.kids.length = la ∧ (t.parts = 1 + o.length + sumP t.kids) ∧ ∀ g o, aa = some ⟨g, o, none⟩ → elsOK w0 g o t.kids) := fun t ht => ⟨ht.kids.1, by have := kids_parts t; rw [ht.ops rfl hO] at this; exact this, ht.kids.2.2⟩
  have HA := hid hA
  have HI := hid ih
  have HW := hid hw0
  have hws := hw0.size
  have HO := hid hO
  replace hb0 := hid hb0
  replace HP := hid HP
  have HH := hid (show 0 ≤ left ∧ left ≤ 300 ∧ left ≤ j + 1 ∧ 1 + (o.length : Int) ≤ left from ⟨h0, h300, hj, hneg⟩)
  have h1a : 0 ≤ left1 := by omega
  have h1b : left1 ≤ 300 := by omega
  have h1c : left1 ≤ j := by omega
  have HL := hid hl1
  clear ih hA hO hw0 hj hneg hl1 h0 h300
  go_enter Try.func23, Try.ntmps23
  go_upto_region 3 with (go_at_call 34; refine (HAL _ hb0.out).mono ?_; clear HAL; rintro e w2 ⟨b, rfl, hbb, hc2⟩; have HS := hid (HP.out.past hc2); have c4 := HS.out.c4; replace hbb := hid hbb; clear hc2)
  all_goals cases b with
    | true =>
      have HAO := hid (alone_fine (hbb.out.1 rfl))
      have hla2 : la ≤ 2 := by have := argsN_le k; have := HAO.out.2.1; omega
      clear hbb HNO
      first
      | (exfalso; simp_all; done)
      | (go_wp2_with fail
         clear hdn hw1 hw2
         simp only [Bool.not_true]
         go_loopw [1, 23] (fun u t wq => ∃ (l : List Ty.P) (s : Int), t = .int .i64 l.length ∧ u = .int .i64 s ∧ l.length ≤ la ∧ 0 ≤ s ∧ s ≤ 300 ∧ s ≤ j ∧ Hid (s = left1 - (sumP l : Int)) ∧ Hid (PSt w wq a aa o.length c la ca) ∧ Hid (∀ g o, aa = some ⟨g, o, none⟩ → elsOK w0 g o l)) (fun _ t _ => la - (intOf t).toNat)
         case atStart => exact ⟨[], left1, rfl, rfl, Nat.zero_le _, h1a, h1b, h1c, by simp [Hid, sumP], HS, fun _ _ _ i hi => absurd hi (by simp)⟩
         case round =>
           obtain ⟨l, s, rfl, rfl, hl1, hs0, hs1, hs2, HSU, HS2, HE⟩ := hrel
           have d4 := HS2.out.c4
           by_cases hlt : l.length < la
           · obtain ⟨g, of, haa, hel⟩ := HA.out (by omega)
             obtain ⟨k', m', r', os', az', hE1, hR1⟩ := hel l.length hlt
             subst haa
             have hgl := hE1.lt
             have HB1 := hid (HW.out.trans (HS2.out.bel.mono HW.out.size))
             have HE2 := hid (hE1.of_heap (HB1.out.block g hgl))
             have HE1 := hid hE1
             have HR := hid hR1
             obtain ⟨⟨o', hO', _⟩, sa', la', ca', rfl, _⟩ := id hR1
             obtain ⟨a', c', rfl, _⟩ := id hO'
             clear hel hE1 hR1 hO'
             obtain ⟨e0, e1, e2, e3, e4⟩ := HE2.out
             have HKC := fun W (hW : Below wr.heap.size wr W) => HI.out w0 W k' m' r' (.slice a' o'.length c') (.slice sa' la' ca') s (HB1.out.trans (hW.mono HB1.out.size)) HR.out hs2 hs1 hs0
             have HB3 := Below.alloc (Below.refl wr.heap.size wr) (Nat.le_refl _) (.cells #[.int .i64 k', .int .i64 m', .int .i64 r', .slice a' o'.length c', .slice sa' la' ca'] 27)
             go_wp2_with (go_at_call 23; refine (HKC _ HB3).mono ?_; clear HKC; rintro en w2 ⟨z, rfl, hb2, hz1, hz2, hf1, hf2⟩; replace hf1 := hid hf1; replace hf2 := hid hf2; have HT := hid (HS2.out.past (HB3.trans (hb2.mono (by simp)))); clear hb2 HB3; replace hz2 := hid hz2)
             · go_ret
               rename_i hzn
               refine PlP.no (by have := HH.out; omega) HT.out.bel (fun t ht => ?_)
               obtain ⟨u1, u2, u3⟩ := HKD.out t ht
               have hi : l.length < t.kids.length := by omega
               have h1 := (u3 g of rfl).fits hi HE1.out
               have h2 := hf1.out _ h1
               have h3 := (HE.out g of rfl).pre (u3 g of rfl) (by omega)
               have h4 := sumP_take t.kids (l.length + 1)
               rw [List.take_succ_eq_append_getElem hi, sumP_snoc, ← h3] at h4
               have h6 := HSU.out
               have h7 := HL.out
               omega
             · rename_i hzn
               obtain ⟨t, hft, ht6⟩ := hf2.out hzn
               replace hft := hid hft
               have htp := t.parts_pos
               have hz3 := hz2.out
               go_roundw
               case rel =>
                 obtain ⟨ht1, ht2, ht3, ht4, ht5⟩ := hft.out
                 refine ⟨l ++ [t], z, by rw [List.length_append]; go_num, rfl, by simp; omega, hzn, by omega, by omega, ?_, HT, ?_⟩
                 · have h1 := HSU.out
                   simp only [Hid, sumP_snoc]
                   omega
                 · intro g' o' hgo i hi
                   by_cases hil : i < l.length
                   · rw [List.getElem_append_left hil]
                     exact HE.out g' o' hgo i hil
                   · have e : i = l.length := by simp at hi; omega
                     subst e
                     rw [List.getElem_append_right (Nat.le_refl _)]
                     simp only [Option.some.injEq, Addr.mk.injEq] at hgo
                     obtain ⟨rfl, rfl, _⟩ := hgo
                     simp only [Nat.sub_self, List.getElem_singleton]
                     subst ht2 ht3 ht4
                     exact ⟨ht1, _, _, HE1.out, ht5⟩
               case measure => simp [intOf]; omega
           · go_wp2_with fail
             go_ret
             have hll : l.length = la := by omega
             have hLL := HL.out
             have hSS := HSU.out
             have hHH := HH.out
             obtain ⟨s', ok, he, hb, hy, _⟩ := prop_yes (w0 := w0) (w := w) (w' := wr) (s := ((1 + o.length + sumP l : Nat) : Int)) HAO.out.1 HAO.out.2.1 HO.out HAO.out.2.2 hll (fun h => let ⟨g, o, h1, _⟩ := HA.out h; ⟨g, o, h1⟩) HE.out hla rfl (fun _ => by omega) HS2.out.bel 0
             simp only [Ending.returned.injEq, Value.tuple.injEq, Array.mk.injEq, List.cons.injEq, Value.int.injEq, Value.bool.injEq] at he
             obtain ⟨⟨_, he1⟩, he2, _⟩ := he
             obtain ⟨t, ht, htc, _⟩ := hy he2.symm
             have htp := t.parts_pos
             refine ⟨s, rfl, HS2.out.bel, by omega, by omega, fun t' ht' hle => ?_, fun _ => ⟨t, ht, by omega⟩⟩
             rw [ht'.one ht]
             omega)
    | false =>
      have hna : ¬ aloneOK k n r o la := fun h => absurd (hbb.out.2 h) (by simp)
      first
      | (exfalso; simp_all; done)
      | (go_wp2_with fail
         go_ret
         exact PlP.no (by have := HH.out; omega) HS.out.bel (HNO.out hna))
theorem parts_any : ∀ j, PlOK j := by
  intro j
  induction j with
  | zero =>
    intro w0 w k n r os az left hb hR hj h300 h0
    obtain ⟨⟨o, hO, hm⟩, sa, la, ca, rfl, hlc, hA⟩ := hR
    obtain ⟨a, c, rfl, _⟩ := id hO
    exact parts_big w0 w k n r a c o sa la ca left hO hm h0 h300 (by omega)
  | succ j ih =>
    intro w0 w k n r os az left hb hR hj h300 h0
    obtain ⟨⟨o, hO, hm⟩, sa, la, ca, rfl, hlc, hA⟩ := hR
    obtain ⟨a, c, rfl, _⟩ := id hO
    by_cases hneg : left < 1 + (o.length : Int)
    · exact parts_big w0 w k n r a c o sa la ca left hO hm h0 h300 hneg
    · exact parts_main ih w0 w k n r a c o sa la ca left hb hO hlc hA h0 h300 (by omega) (by omega)
end Go.Proofs.Ytcogpcalghfghaa
