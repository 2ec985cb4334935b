/-
  What the document writes of a type: digits.
-/
import Derived.Test.YtkpfadapgjijgabDoorPC
import Derived.Laws.IdiomStrings
namespace Go.Proofs.YtkpfadapgjijgabDoor
open Go.RowKit

theorem cat_ba (a b : List UInt8) : (⟨a.toArray⟩ : ByteArray) ++ ⟨b.toArray⟩ = ⟨(a ++ b).toArray⟩ := by
  rw [ByteArray.ext_iff]
  simp [ByteArray.data_append]
theorem str_ext {a b : ByteArray} (h : a.data.toList = b.data.toList) : a = b := by
  cases a; cases b
  simp only [ByteArray.mk.injEq]
  exact Array.toList_inj.1 h
theorem ret_str {a b : ByteArray} (h : a.data.toList = b.data.toList) : Ending.returned (.string a) = .returned (.string b) := by
  have : a = b := by
    cases a; cases b
    simp only [ByteArray.mk.injEq]
    exact Array.toList_inj.1 h
  rw [this]

/-- One byte made a text. -/
theorem conv1 (W : World) (c : UInt8) (x : Int) (h : x = c.toNat) :
    (convert 31 9 (.slice (some ⟨W.heap.size, 0, none⟩) 1 1)).run Tryd.prog (W.alloc (.cells #[.int .u8 x] 5)) = .ok (.string ⟨[c].toArray⟩) (W.alloc (.cells #[.int .u8 x] 5)) := by
  subst h
  exact run_convert_bytes_back (P := Tryd.prog) (W.alloc (.cells #[.int .u8 c.toNat] 5)) 31 9 5 ⟨W.heap.size, 0, none⟩ 1 [c] Tryd.underlying31 Tryd.underlying5 Tryd.underlying9 (fun j hj => by
    have : j = 0 := by simpa using hj
    subst this
    simp [go_sem, Addr.add])

theorem dig_byte (m : Nat) : ((48 : Int) + (m : Int) % 10) = ((48 + m % 10).toUInt8).toNat := by
  have : (48 + m % 10).toUInt8.toNat = 48 + m % 10 := by simp [Nat.toUInt8]; omega
  rw [this]; omega
theorem dig_step (m : Nat) (h : ¬ m < 10) : Ty.dig m = Ty.dig (m / 10) ++ [(48 + m % 10).toUInt8] := by rw [Ty.dig, dif_neg h]
theorem dig_last (m : Nat) (h : m < 10) : Ty.dig m = [(48 + m % 10).toUInt8] := by rw [Ty.dig, dif_pos h, Nat.mod_eq_of_lt h]

set_option maxRecDepth 100000 in
set_option maxHeartbeats 4000000 in
theorem digits_any (n : Nat) (w : World) (hn : n ≤ 1000000000) :
    Calls Tryd.prog 12 #[.int .i64 n] w fun e w' => e = .returned (.string ⟨(Ty.dig n).toArray⟩) ∧ Below w.heap.size w w' := by
  go_enter Tryd.func12, Tryd.ntmps12
  go_wp2_with fail
  go_loopw [0, 3] (fun t u wr => ∃ (m : Nat) (l : List UInt8), t = .int .i64 m ∧ u = .string ⟨l.toArray⟩ ∧ m ≤ 1000000000 ∧ l.length ≤ 1000000000 - m ∧ Hid (Ty.dig n = Ty.dig m ++ l) ∧ Hid (Below w.heap.size w wr)) (fun t _ _ => (intOf t).toNat)
  case atStart => exact ⟨n, [], rfl, rfl, hn, by simp, by simp [Hid], Below.refl _ _⟩
  case round =>
    obtain ⟨m, l, rfl, rfl, hm, hl, HD, HB⟩ := hrel
    have kc := fun (W : World) => conv1 W _ _ (dig_byte m)
    have HS := hid (fun h => dig_step m h)
    have HT := hid (fun h => dig_last m h)
    generalize (48 + m % 10).toUInt8 = c at kc HS HT
    by_cases h10 : m < 10
    · have hz : (m : Int) / 10 = 0 := by omega
      go_wp2_with fail
      go_ret
      refine ⟨ret_str ?_, HB.out.alloc HB.out.size _⟩
      rw [HD.out, HT.out h10]
      simp [ByteArray.data_append]
    · have hz : ¬ (m : Int) / 10 = 0 := by omega
      go_wp2_with fail
      go_roundw
      case rel =>
        refine ⟨m / 10, c :: l, by go_num, congrArg Value.string (cat_ba [c] l), by omega, by simp; omega, ?_, HB.out.alloc HB.out.size _⟩
        rw [Hid, HD.out, HS.out h10]
        simp
      case measure => simp [intOf]; omega
end Go.Proofs.YtkpfadapgjijgabDoor
