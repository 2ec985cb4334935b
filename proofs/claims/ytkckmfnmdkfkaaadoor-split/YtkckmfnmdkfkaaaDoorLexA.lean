/-
  What the program's small functions answer: whether a rune is a sign, of which class a rune is.
-/
import Derived.Test.YtkckmfnmdkfkaaaDoorShelf
import Derived.Test.YtkckmfnmdkfkaaaDoorRefD
import Derived.Lib.OthersKept
namespace Go.Proofs.YtkckmfnmdkfkaaaDoor
open Go.RowKit

def sigText : ByteArray := ⟨#[40, 41, 91, 93, 123, 125, 44, 59, 58, 61, 45, 43, 42, 60, 124, 126]⟩

/-- A rune beyond ASCII is written by two to four bytes, the last of which is none of ASCII's. -/
theorem enc_facts (r : Int) (h : 128 ≤ r) : (∃ a z : UInt8, Utf8.encode r = ⟨#[a, z]⟩ ∧ 128 ≤ z.toNat) ∨ (∃ a b z : UInt8, Utf8.encode r = ⟨#[a, b, z]⟩ ∧ 128 ≤ z.toNat) ∨ (∃ a b c z : UInt8, Utf8.encode r = ⟨#[a, b, c, z]⟩ ∧ 128 ≤ z.toNat) := by
  obtain ⟨c, hc, he⟩ : ∃ c : Nat, 128 ≤ c ∧ Utf8.encode r = (let b (n : Nat) : UInt8 := UInt8.ofNat n
      if c < 0x80 then ⟨#[b c]⟩
      else if c < 0x800 then ⟨#[b (0xC0 + c / 64), b (0x80 + c % 64)]⟩
      else if c < 0x10000 then ⟨#[b (0xE0 + c / 4096), b (0x80 + c / 64 % 64), b (0x80 + c % 64)]⟩
      else ⟨#[b (0xF0 + c / 262144), b (0x80 + c / 4096 % 64), b (0x80 + c / 64 % 64), b (0x80 + c % 64)]⟩) := by
    refine ⟨if Utf8.valid r then r.toNat else Utf8.runeError, ?_, rfl⟩
    by_cases hv : Utf8.valid r = true
    · rw [if_pos hv]; omega
    · rw [if_neg hv]; simp [Utf8.runeError]
  rw [he]
  have hlast : 128 ≤ (UInt8.ofNat (128 + c % 64)).toNat := by rw [UInt8.toNat_ofNat']; omega
  by_cases h2 : c < 0x800
  · simp only [show ¬ c < 0x80 from by omega, h2, if_true, if_false]
    exact .inl ⟨_, _, rfl, hlast⟩
  · by_cases h3 : c < 0x10000
    · simp only [show ¬ c < 0x80 from by omega, h2, h3, if_true, if_false]
      exact .inr (.inl ⟨_, _, _, rfl, hlast⟩)
    · simp only [show ¬ c < 0x80 from by omega, h2, h3, if_false]
      exact .inr (.inr ⟨_, _, _, _, rfl, hlast⟩)

theorem indexByte_none (l : List UInt8) (z : UInt8) (h : ∀ b ∈ l, b ≠ z) : Lib.indexByte l z = -1 := by
  induction l with
  | nil => rfl
  | cons b l ih =>
    have h1 : (b == z) = false := by simpa using h b (List.mem_cons_self ..)
    have h2 := ih (fun x hx => h x (List.mem_cons_of_mem _ hx))
    simp [Lib.indexByte, h1, h2]

/-- IndexByte at a byte beyond ASCII, in a text of ASCII. -/
theorem idx_none (s : ByteArray) (z : UInt8) (hz : 128 ≤ z.toNat) (hs : ∀ b ∈ s.data.toList, b.toNat < 128) (w : World) :
    Calls Tryd.prog 11 #[.string s, .int .u8 z.toNat] w fun e w' => e = .returned (.int .i64 (-1)) ∧ w' = w := by
  refine (Tryd.strings_IndexByte s z.toNat w).mono ?_
  rintro e w' ⟨rfl, rfl⟩
  refine ⟨ret_int ?_, rfl⟩
  apply indexByte_none
  intro b hb e
  have h1 := hs b hb
  have h2 : ((z.toNat : Int)).toNat.toUInt8 = z := by simp
  rw [h2] at e
  rw [e] at h1
  omega

theorem ne_last {c : Nat} {z : UInt8} (hc : c < 128) (hz : 128 ≤ z.toNat) (h : ((c : Int) != (z.toNat : Int)) = false) : False := by
  simp at h
  omega

set_option maxRecDepth 100000 in
set_option maxHeartbeats 1000000 in
theorem indexRune_d (r : Int) (w : World) (h1 : 128 ≤ r) (h2 : r ≠ 65533) :
    Calls Tryd.prog 28 #[.string ⟨#[40, 41, 91, 93, 123, 125, 44, 59, 58, 61, 45, 43, 42, 60, 124, 126]⟩, .int .i32 r] w fun e w' => e = .returned (.int .i64 (-1)) ∧ Below w.heap.size w w' := by
  have h2' : (r == 65533) = false := by simp [h2]
  cases hv : Lib.validRune r with
  | false =>
    go_enter Tryd.func28, Tryd.ntmps28
    go_wp2_with (go_at_call 35; refine (Tryd.utf8_ValidRune _ _).mono ?_; rintro e w' ⟨rfl, rfl⟩)
    go_ret
    exact ⟨rfl, Below.refl _ _⟩
  | true =>
    rcases enc_facts r h1 with ⟨a, z, he, hz⟩ | ⟨a, b, z, he, hz⟩ | ⟨a, b, c, z, he, hz⟩
    · go_enter Tryd.func28, Tryd.ntmps28
      go_wp2_with (go_at_call 35; refine (Tryd.utf8_ValidRune _ _).mono ?_; rintro e w' ⟨rfl, rfl⟩)
      go_step3
      go_wp2_with fail
      refine wp_loop_rounds 1 ?_
      rw [rounds_succ]
      go_wp2_with fail
      go_step3
      go_wp2_with fail
      go_quiet (fail)
      have HQ := hid (below_drewN (Below.refl w'.heap.size w') nq)
      generalize w'.drewN nq = wq at *
      go_wp2_with fail
      · go_quiet ((go_at_call 11; exact Calls.quiet_of_same (idx_none _ _ hz (by decide) _)))
        go_wp2
        rw [Exit.noGoto_ret]
        go_wp2
        rw [Exit.noGoto_ret]
        go_ret
        exact ⟨rfl, below_drewN HQ.out _⟩
      · exact (ne_last (c := 41) (z := z) (by omega) hz (by assumption)).elim
    · go_enter Tryd.func28, Tryd.ntmps28
      go_wp2_with (go_at_call 35; refine (Tryd.utf8_ValidRune _ _).mono ?_; rintro e w' ⟨rfl, rfl⟩)
      go_step3
      go_wp2_with fail
      refine wp_loop_rounds 1 ?_
      rw [rounds_succ]
      go_wp2_with fail
      go_step3
      go_wp2_with fail
      go_quiet (fail)
      have HQ := hid (below_drewN (Below.refl w'.heap.size w') nq)
      generalize w'.drewN nq = wq at *
      go_wp2_with fail
      · go_quiet ((go_at_call 11; exact Calls.quiet_of_same (idx_none _ _ hz (by decide) _)))
        go_wp2
        rw [Exit.noGoto_ret]
        go_wp2
        rw [Exit.noGoto_ret]
        go_ret
        exact ⟨rfl, below_drewN HQ.out _⟩
      · exact (ne_last (c := 91) (z := z) (by omega) hz (by assumption)).elim
    · go_enter Tryd.func28, Tryd.ntmps28
      go_wp2_with (go_at_call 35; refine (Tryd.utf8_ValidRune _ _).mono ?_; rintro e w' ⟨rfl, rfl⟩)
      go_step3
      go_wp2_with fail
      refine wp_loop_rounds 1 ?_
      rw [rounds_succ]
      go_wp2_with fail
      go_step3
      go_wp2_with fail
      go_quiet (fail)
      have HQ := hid (below_drewN (Below.refl w'.heap.size w') nq)
      generalize w'.drewN nq = wq at *
      go_wp2_with fail
      · go_quiet ((go_at_call 11; exact Calls.quiet_of_same (idx_none _ _ hz (by decide) _)))
        go_wp2
        rw [Exit.noGoto_ret]
        go_wp2
        rw [Exit.noGoto_ret]
        go_ret
        exact ⟨rfl, below_drewN HQ.out _⟩
      · exact (ne_last (c := 93) (z := z) (by omega) hz (by assumption)).elim

/-- IndexRune at the rune that stands for none. -/
theorem sig_ascii : ∀ k (h : k < sigText.size), (sigText[k]).toNat < 128 := by decide

set_option maxRecDepth 100000 in
set_option maxHeartbeats 1000000 in
theorem indexRune_e (w : World) :
    Calls Tryd.prog 28 #[.string ⟨#[40, 41, 91, 93, 123, 125, 44, 59, 58, 61, 45, 43, 42, 60, 124, 126]⟩, .int .i32 65533] w fun e w' => e = .returned (.int .i64 (-1)) ∧ Below w.heap.size w w' := by
  obtain ⟨s, hs⟩ : ∃ s, s = sigText := ⟨_, rfl⟩
  have hsz : s.size = 16 := by rw [hs]; rfl
  have hall := sig_ascii
  rw [← hs] at hall
  show Calls Tryd.prog 28 #[.string sigText, .int .i32 65533] w _
  rw [← hs]
  have HA := hid hall
  have hsz1 : s.size ≤ 16 := by omega
  clear hs hall hsz
  go_enter Tryd.func28, Tryd.ntmps28
  go_wp2
  go_loopw [] (fun wr => ∃ pos : Nat, wr.heap[w.heap.size]? = some (.stringIter s pos) ∧ Below w.heap.size w wr) (fun wr => s.size - wr.iterPos w.heap.size)
  case atStart =>
    refine ⟨0, ?_, (Below.refl _ w).alloc (Nat.le_refl _) _⟩
    have := World.iter_heap w s 0
    simpa using this
  case round =>
    obtain ⟨pos, hit, hb⟩ := hrel
    by_cases hp : pos < s.size
    · have hasc := HA.out pos hp
      have hnx : ∀ ty, (Instr.next (.pointer (some ⟨w.heap.size, 0, none⟩)) true ty).run Tryd.prog wr = _ := fun ty => Lib.run_next_ascii_at wr w.heap.size s pos ty hit hp hasc
      have hit2 := Lib.iterAt_heap wr w.heap.size s pos (pos + 1) hit
      have hb2 := Lib.below_iterAt hb (Nat.le_refl _) s (pos + 1)
      have hne : (((s[pos]).toNat : Int) == 65533) = false := by simp; omega
      go_wp2
      go_roundw
      case rel => exact ⟨pos + 1, hit2, hb2⟩
      case measure =>
        simp only [World.iterPos, hit2, hit]
        omega
    · have hnx : ∀ ty, (Instr.next (.pointer (some ⟨w.heap.size, 0, none⟩)) true ty).run Tryd.prog wr = _ := fun ty => Lib.run_next_end_at wr w.heap.size s pos ty hit hp
      go_wp2
      go_ret
      exact ⟨rfl, hb⟩
end Go.Proofs.YtkckmfnmdkfkaaaDoor
