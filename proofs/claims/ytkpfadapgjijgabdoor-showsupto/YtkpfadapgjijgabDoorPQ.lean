/-
  What the program's check of a type answers, of a type that is proper: rows, and the whole.
-/
import Derived.Test.YtkpfadapgjijgabDoorPP
namespace Go.Proofs.YtkpfadapgjijgabDoor
open Go.RowKit

theorem inOrder_get : ∀ (o : List (List UInt8)), Ty.inOrder o → ∀ i (h : i + 1 < o.length), ¬ o[i + 1] < o[i] := by
  intro o
  induction o with
  | nil => intro _ i h; simp at h
  | cons x r ih =>
    intro ho i h
    cases r with
    | nil => simp at h
    | cons y r =>
      cases i with
      | zero => exact ho.1
      | succ i => exact ih ho.2 i (by simpa using h)

theorem less_no (x y : List UInt8) (w : World) (h : ¬ x < y) : Calls Tryd.prog 33 #[.string ⟨x.toArray⟩, .string ⟨y.toArray⟩] w fun e w' => e = .returned (.bool false) ∧ w' = w := by
  have := less_any x y w
  simpa [h] using this

set_option maxRecDepth 100000 in
set_option maxHeartbeats 4000000 in
theorem sorted_any (a : Option Addr) (c : Nat) (o : List (List UInt8)) (w : World) (hO : OpsV w (.slice a o.length c) o) (ho : Ty.inOrder o) (hl : o.length ≤ 300) :
    Calls Tryd.prog 29 #[.slice a o.length c] w fun e w' => e = .returned (.bool true) ∧ Hid (Below w.heap.size w w') := by
  have HO := hid hO
  have HI := hid (inOrder_get o ho)
  obtain ⟨lo, hlo⟩ : ∃ lo, lo = o.length := ⟨_, rfl⟩
  rw [← hlo] at hl ⊢
  have HL := hid hlo
  clear hO ho hlo
  go_enter Tryd.func29, Tryd.ntmps29
  go_wp2_with fail
  go_loopw [3] (fun t wr => ∃ (m : Int) (q : Nat), t = .int .i64 m ∧ -1 ≤ m ∧ m < lo ∧ wr = w.drewN q) (fun t _ => (intOf t).toNat)
  case atStart => exact ⟨lo - 1, 0, rfl, by omega, by omega, rfl⟩
  case round =>
    obtain ⟨m, q, rfl, hm1, hm2, rfl⟩ := hrel
    by_cases hpos : 0 < m
    · obtain ⟨j, rfl⟩ : ∃ j : Nat, m = ((j + 1 : Nat) : Int) := ⟨(m - 1).toNat, by omega⟩
      have hj : j + 1 < o.length := by rw [← HL.out]; omega
      obtain ⟨g, k, ha, hcell⟩ := HO.out.cells (by intro h; rw [h] at hj; simp at hj)
      subst ha
      have c1 := hcell (j + 1) hj
      have c2 := hcell j (by omega)
      have HN := hid (HI.out j hj)
      generalize o[j + 1] = x at c1 HN
      generalize o[j] = y at c2 HN
      clear hcell
      have hj2 : j + 1 < lo := by omega
      have hj3 : j < lo := by omega
      have hi1 : (0 : Int) ≤ (j : Int) + 1 := by omega
      have hi2 : (j : Int) + 1 < (lo : Int) := by omega
      have hi3 : (0 : Int) ≤ (j : Int) + 1 - 1 := by omega
      have hi4 : (j : Int) + 1 - 1 < (lo : Int) := by omega
      have hi5 : (j : Int) < (lo : Int) := by omega
      have hi6 : IntKind.i64.wrap (j : Int) = (j : Int) := by rw [IntKind.wrap_i64]; omega
      clear hm1 hm2
      have hd : decide (x < y) = false := by simpa using HN.out
      go_wp2_with fail
      go_region_held3 (fun w' => w'.cell? ⟨g, k + (j + 1), none⟩ = some (.string ⟨x.toArray⟩) ∧ w'.cell? ⟨g, k + j, none⟩ = some (.string ⟨y.toArray⟩)) (go_keep)
        ((go_at_call 33; refine (less_no x y _ HN.out).mono ?_; rintro e w' ⟨rfl, rfl⟩))
      all_goals
        go_wp2_with fail
        go_roundw
        case rel => exact ⟨j, _, by go_num, by omega, by omega, rfl⟩
        case measure => simp [intOf] <;> omega
    · go_wp2_with fail
      go_ret
      exact ⟨rfl, below_dn (Below.refl _ _) _⟩

theorem contains_no (a : Option Addr) (c : Nat) (o : List (List UInt8)) (w : World) (hO : OpsV w (.slice a o.length c) o) (ho : ∀ x ∈ o, x ≠ []) (hl : o.length ≤ 300) :
    Calls Tryd.prog 28 #[.slice a o.length c, .string ⟨#[]⟩] w fun e w' => e = .returned (.bool false) ∧ w' = w := by
  by_cases h0 : o = []
  · subst h0
    exact Tryd.slices_Contains_string_empty a c _ w
  · obtain ⟨g, k, ha, hcell⟩ := hO.cells h0
    subst ha
    have hm : (o.map fun x => (⟨x.toArray⟩ : ByteArray)).length = o.length := by simp
    have := Tryd.slices_Contains_string g k o.length c (o.map fun x => (⟨x.toArray⟩ : ByteArray)) ⟨#[]⟩ w (by rw [hm]; exact Nat.le_refl _) (by omega) (fun j hj => by
      rw [hm] at hj
      rw [hcell j hj]
      simp [List.getD, hj])
    refine this.mono ?_
    rintro e w' ⟨rfl, rfl⟩
    refine ⟨ret_bool ?_, rfl⟩
    rw [Bool.eq_false_iff]
    intro h
    have hmem := (Lib.containsS_iff _ _).1 h
    have hmem2 := List.mem_of_mem_take hmem
    simp only [List.mem_map] at hmem2
    obtain ⟨x, hx, he⟩ := hmem2
    have : x = [] := by have h2 := congrArg (fun b : ByteArray => b.data.toList) he; simpa using h2
    exact ho x hx this

set_option maxRecDepth 100000 in
set_option maxHeartbeats 4000000 in
theorem row_any (k n r : Int) (a : Option Addr) (c : Nat) (o : List (List UInt8)) (az : Value) (w : World) (h : (k ≠ 6 ∧ o = [] ∧ r = 0) ∨ (k = 6 ∧ 0 ≤ r ∧ r ≤ 1000000000)) (hO : OpsV w (.slice a o.length c) o) (hn : ∀ x ∈ o, x ≠ []) (ho : Ty.inOrder o) (hl : o.length ≤ 300) :
    Calls Tryd.prog 24 #[.agg #[.int .i64 k, .int .i64 n, .int .i64 r, .slice a o.length c, az]] w fun e w' => e = .returned (.bool true) ∧ Hid (Below w.heap.size w w') := by
  rcases h with ⟨h1, rfl, rfl⟩ | ⟨rfl, h1, h2⟩
  · simp only [List.length_nil]
    clear hO hn ho hl
    go_enter Tryd.func24, Tryd.ntmps24
    go_wp2_with fail
    go_ret
    exact ⟨ret_bool (by simp), (Below.refl _ _).alloc (Nat.le_refl _) _⟩
  · have hh1 : ¬ r < 0 := by omega
    have hh2 : ¬ 1000000000 < r := by omega
    have HC := hid (fun (ob : Obj) => contains_no a c o (w.alloc ob) (hO.carry (fun b hb => heap_alloc_old w ob hb)) hn hl)
    have HSo := hid (fun (ob : Obj) => sorted_any a c o (w.alloc ob) (hO.carry (fun b hb => heap_alloc_old w ob hb)) ho hl)
    clear hO hn ho
    generalize o.length = lo at HC HSo hl ⊢
    go_enter Tryd.func24, Tryd.ntmps24
    go_wp2_with (first | (go_at_call 28; refine (HC.out _).mono ?_; rintro e w' ⟨rfl, rfl⟩) | (go_at_call 29; refine (HSo.out _).mono ?_; rintro e w2 ⟨rfl, HB⟩))
    go_ret
    exact ⟨rfl, (Below.alloc (Below.refl w.heap.size w) (Nat.le_refl _) _).trans (HB.out.mono (by simp))⟩
end Go.Proofs.YtkpfadapgjijgabDoor
