/-
  What the program writes of a type: names of variables, numbers, arrows, levels.
-/
import Derived.Test.YtkpfadapgjijgabDoorPR
import Derived.Test.YtkpfadapgjijgabDoorSD
import Derived.Lib.LaidTab
namespace Go.Proofs.YtkpfadapgjijgabDoor
open Go.RowKit

/-- The library's table of powers lies as its text lays it. -/
def TabW (w : World) : Prop := Lib.TabIs Tryd.prog w "internal/strconv.uint64pow10" .u64 Lib.pow10Tab
theorem TabW.past {w w' : World} (h : TabW w) (hb : Below w.heap.size w w') : TabW w' := by
  unfold TabW Lib.TabIs World.var? at *
  cases hg : Tryd.prog.globalNamed "internal/strconv.uint64pow10" with
  | none => rw [hg] at h; cases h
  | some g =>
    rw [hg] at h
    simp only [Option.bind_some] at h ⊢
    have hlt : g < w.heap.size := by
      rcases Nat.lt_or_ge g w.heap.size with h1 | h1
      · exact h1
      · rw [Array.getElem?_eq_none h1] at h; cases h
    rw [hb.block g hlt]
    exact h

theorem dig_dec : ∀ (n : Nat), Ty.dig n = Lib.decDigits n := by
  intro n
  induction n using Nat.strongRecOn with
  | _ n ih =>
    rw [Ty.dig, Lib.decDigits]
    by_cases h : n < 10
    · rw [dif_pos h, dif_pos h]
    · rw [dif_neg h, dif_neg h, ih (n / 10) (by omega)]
theorem below_grow {B : Nat} {a w : World} (h : Below B a w) (hB : B ≤ w.heap.size) (os : Array Obj) : Below B a (Sort.grow w os) :=
  ⟨h.os, h.tape, h.output, by have := h.size; simp [Sort.grow]; omega, fun k hk => by
    rw [← h.block k hk]
    simp only [Sort.grow]
    exact Array.getElem?_append_left (by omega)⟩
theorem itoa_any (n : Nat) (h : n ≤ 1000000000) (w : World) (ht : TabW w) :
    Calls Tryd.prog 25 #[.int .i64 n] w fun e w' => e = .returned (.string ⟨(Ty.dig n).toArray⟩) ∧ Hid (Below w.heap.size w w') := by
  refine (Tryd.strconv_Itoa n (by omega) (by omega) w ht).mono ?_
  rintro e w' ⟨rfl, k, os, rfl⟩
  refine ⟨ret_str ?_, below_grow (below_dn (Below.refl _ _) _) (by simp) _⟩
  have hn : ¬ (n : Int) < 0 := by omega
  simp [Lib.itoa, dig_dec]

theorem letter_enc (n : Nat) (h1 : 1 ≤ n) (h2 : n ≤ 26) : (Utf8.encode (97 + (n : Int) - 1)).data.toList = [(96 + n).toUInt8] := by
  have h : ∀ i : Fin 27, 1 ≤ i.val → (Utf8.encode (97 + (i.val : Int) - 1)).data.toList = [(96 + i.val).toUInt8] := by decide +kernel
  exact h ⟨n, by omega⟩ h1

set_option maxHeartbeats 1000000 in
theorem level_any (t : Ty.P) (w : World) : Calls Tryd.prog 15 #[.int .i64 t.kind] w fun e w' => e = .returned (.int .i64 t.level) ∧ w' = w := by
  cases t <;> simp only [Ty.P.kind, Ty.P.level]
  all_goals
    go_enter Tryd.func15, Tryd.ntmps15
    go_wp2
    go_ret
    exact ⟨rfl, rfl⟩

set_option maxRecDepth 100000 in
set_option maxHeartbeats 4000000 in
theorem nameOf_any (n : Nat) (h1 : 1 ≤ n) (h2 : n ≤ 1000000000) (w : World) (ht : TabW w) :
    Calls Tryd.prog 19 #[.int .i64 n] w fun e w' => e = .returned (.string ⟨(Ty.varT n).toArray⟩) ∧ Hid (Below w.heap.size w w') := by
  have HT := hid ht
  clear ht
  by_cases h26 : n ≤ 26
  · have HX : Hid (Ty.varT n = [(96 + n).toUInt8]) := by simp [Hid, Ty.varT, h26]
    go_enter Tryd.func19, Tryd.ntmps19
    go_wp2_with fail
    go_ret
    exact ⟨ret_str (by rw [HX.out]; exact letter_enc n h1 h26), Below.refl _ _⟩
  · have HX : Hid (Ty.varT n = 97 :: Ty.dig n) := by simp [Hid, Ty.varT, h26]
    have hdl := Ty.dig_small h2
    have HI := hid (itoa_any n h2 w HT.out)
    generalize Ty.dig n = dg at HX hdl HI
    go_enter Tryd.func19, Tryd.ntmps19
    go_wp2_with fail
    refine HI.out.mono ?_
    rintro e w2 ⟨rfl, HB⟩
    go_wp2_with fail
    go_ret
    exact ⟨ret_str (by rw [HX.out]; simp [ByteArray.data_append]), HB⟩

theorem join_eq : ∀ (l : List (List UInt8)), Lib.join l [44, 32] = Ty.joinC l := by
  intro l
  induction l with
  | nil => rfl
  | cons x r ih =>
    cases r with
    | nil => simp [Lib.join, List.intercalate, Ty.joinC]
    | cons y r =>
      have h : Lib.join (x :: y :: r) [44, 32] = x ++ [44, 32] ++ Lib.join (y :: r) [44, 32] := by simp [Lib.join, List.intercalate]
      rw [h, ih]
      simp [Ty.joinC]

theorem joinW_any (a : Option Addr) (c : Nat) (o : List (List UInt8)) (w : World) (hO : OpsV w (.slice a o.length c) o) (hx : ∀ x ∈ o, x.length ≤ 1048576) (hl : o.length ≤ 300) :
    Calls Tryd.prog 26 #[.slice a o.length c, .string ⟨#[44, 32]⟩] w fun e w' => e = .returned (.string ⟨(Ty.joinC o).toArray⟩) ∧ Hid (Below w.heap.size w w') := by
  by_cases h0 : o = []
  · subst h0
    refine (Tryd.strings_Join_none a c ⟨#[44, 32]⟩ w).mono ?_
    rintro e w' ⟨rfl, rfl⟩
    exact ⟨rfl, Below.refl _ _⟩
  · obtain ⟨g, k, ha, hcell⟩ := hO.cells h0
    obtain ⟨a', c', hs, hcap, _⟩ := id hO
    simp only [Value.slice.injEq] at hs
    subst ha
    have hm : (o.map fun x => (⟨x.toArray⟩ : ByteArray)).length = o.length := by simp
    have hmm : (o.map fun x => (⟨x.toArray⟩ : ByteArray)).map (·.data.toList) = o := by simp [Function.comp_def]
    have hjl := Ty.joinC_len o hx
    have := Tryd.strings_Join g k c (o.map fun x => (⟨x.toArray⟩ : ByteArray)) ⟨#[44, 32]⟩ w (fun j x hj => by
        have hj2 : j < o.length := by have := (List.getElem?_eq_some_iff.1 hj).1; simpa using this
        rw [hcell j hj2]
        simp [List.getElem?_eq_getElem hj2] at hj
        rw [hj]) (World.block_lt_of_cell? w _ (hcell 0 (List.length_pos_iff.2 h0))) (by rw [hm]; omega) (by rw [hm, hs.2.2]; exact hcap) (by
        rw [hmm]
        show (Lib.join o [44, 32]).length ≤ _
        rw [join_eq]
        omega)
    rw [hm, hmm] at this
    refine this.mono ?_
    rintro e w' ⟨rfl, hb⟩
    exact ⟨ret_str (by show Lib.join o [44, 32] = _; rw [join_eq]), hb⟩
end Go.Proofs.YtkpfadapgjijgabDoor
