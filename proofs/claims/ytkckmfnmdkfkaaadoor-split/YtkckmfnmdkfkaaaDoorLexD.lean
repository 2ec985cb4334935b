/-
  What the program's span answers: how many bytes of a text, from its head on, are digits (or digits and letters).
-/
import Derived.Test.YtkckmfnmdkfkaaaDoorLexC
namespace Go.Proofs.YtkckmfnmdkfkaaaDoor
open Go.RowKit

def spanP (b : Bool) (c : UInt8) : Bool := Lx.isDig c || (b && Lx.isLet c)
def SpanTo (s : ByteArray) (b : Bool) (k : Nat) : Prop := k ≤ s.size ∧ s.data.toList.takeWhile (spanP b) = s.data.toList.take k

theorem isLet_iff (c : UInt8) : Lx.isLet c = true ↔ (97 ≤ c.toNat ∧ c.toNat ≤ 122) ∨ (65 ≤ c.toNat ∧ c.toNat ≤ 90) ∨ c.toNat = 95 := by
  simp [Lx.isLet]; omega
theorem clB_none {c : UInt8} (h1 : Lx.isDig c = false) (h2 : Lx.isLet c = false) : clB c ≠ 3 ∧ clB c ≠ 4 := by
  unfold clB
  rw [h1, h2]
  by_cases a : Lx.isBl c = true
  · simp [a]
  · by_cases b : c.toNat = 35
    · simp [a, b]
    · by_cases d : Lx.isSg c = true <;> simp [a, b, d]
theorem span_stop {s : ByteArray} {b : Bool} {k : Nat} (hk : k ≤ s.size) (hall : ∀ q (h : q < s.size), q < k → spanP b s[q] = true) (hend : ∀ h : k < s.size, spanP b s[k] = false) : SpanTo s b k := by
  refine ⟨hk, ?_⟩
  have := run_take (p := spanP b) s 0 k (Nat.zero_le _) hk (fun q h _ h2 => hall q h h2) hend
  simpa using this
theorem span_step {s : ByteArray} {b : Bool} {k : Nat} (hall : ∀ q (h : q < s.size), q < k → spanP b s[q] = true) (hk : k < s.size) (h : spanP b s[k] = true) : ∀ q (h : q < s.size), q < k + 1 → spanP b s[q] = true := by
  intro q hq h2
  by_cases e : q = k
  · subst e; exact h
  · exact hall q hq (by omega)

set_option maxRecDepth 100000 in
set_option maxHeartbeats 2000000 in
theorem span_any (s : ByteArray) (b : Bool) (w : World) :
    Calls Tryd.prog 18 #[.string s, .bool b] w fun e w' => ∃ k : Nat, e = .returned (.int .i64 k) ∧ SpanTo s b k ∧ Below w.heap.size w w' := by
  go_enter Tryd.func18, Tryd.ntmps18
  go_wp2
  go_loopw [] (fun wr => ∃ pos : Nat, pos ≤ s.size ∧ wr.heap[w.heap.size]? = some (.stringIter s pos) ∧ Below w.heap.size w wr ∧ Hid (∀ q (h : q < s.size), q < pos → spanP b s[q] = true)) (fun wr => s.size - wr.iterPos w.heap.size)
  case atStart =>
    refine ⟨0, Nat.zero_le _, ?_, (Below.refl _ w).alloc (Nat.le_refl _) _, hid (fun q h h2 => absurd h2 (by omega))⟩
    have := World.iter_heap w s 0
    simpa using this
  case round =>
    obtain ⟨pos, hpl, hit, hb, H⟩ := hrel
    have hsz : w.heap.size < wr.heap.size := (Array.getElem?_eq_some_iff.1 hit).1
    by_cases hp : pos < s.size
    · by_cases hasc : (s[pos]).toNat < 128
      · have hnx : ∀ ty, (Instr.next (.pointer (some ⟨w.heap.size, 0, none⟩)) true ty).run Tryd.prog wr = _ := fun ty => Lib.run_next_ascii_at wr w.heap.size s pos ty hit hp hasc
        have hit2 := Lib.iterAt_heap wr w.heap.size s pos (pos + 1) hit
        have hb2 := Lib.below_iterAt hb (Nat.le_refl _) s (pos + 1)
        cases hd : Lx.isDig s[pos] with
        | true =>
          have hcl := clB_dig ((isDig_iff _).1 hd)
          have HST := hid (span_step H.out hp (show spanP b s[pos] = true by simp [spanP, hd]))
          clear hd
          go_wp2_with (go_at_call 10; refine (classOf_lo s[pos] _ hasc).mono ?_; rintro e w' ⟨rfl, rfl⟩; rw [hcl])
          go_roundw
          case rel => exact ⟨pos + 1, by omega, hit2, hb2, HST⟩
          case measure =>
            simp only [World.iterPos, hit2, hit]
            omega
        | false =>
          cases hl : Lx.isLet s[pos] with
          | true =>
            have hcl := clB_let ((isLet_iff _).1 hl)
            cases b with
            | true =>
              have HST := hid (span_step H.out hp (show spanP true s[pos] = true by simp [spanP, hl]))
              clear hd hl
              go_wp2_with (go_at_call 10; refine (classOf_lo s[pos] _ hasc).mono ?_; rintro e w' ⟨rfl, rfl⟩; rw [hcl])
              go_roundw
              case rel => exact ⟨pos + 1, by omega, hit2, hb2, HST⟩
              case measure =>
                simp only [World.iterPos, hit2, hit]
                omega
            | false =>
              have HST := hid (span_stop (b := false) hpl H.out (fun _ => by simp [spanP, hd]))
              clear hd hl
              go_wp2_with (go_at_call 10; refine (classOf_lo s[pos] _ hasc).mono ?_; rintro e w' ⟨rfl, rfl⟩; rw [hcl])
              go_ret
              exact ⟨pos, rfl, HST.out, hb2⟩
          | false =>
            have hcl := clB_none hd hl
            have h3 : ((clB s[pos] : Int) != 3) = true := by simp; omega
            have h4 : ((clB s[pos] : Int) == 4) = false := by simp; omega
            have HST := hid (span_stop (b := b) hpl H.out (fun _ => by simp [spanP, hd, hl]))
            clear hd hl hcl
            cases b with
            | true =>
              go_wp2_with (go_at_call 10; refine (classOf_lo s[pos] _ hasc).mono ?_; rintro e w' ⟨rfl, rfl⟩)
              go_ret
              exact ⟨pos, rfl, HST.out, hb2⟩
            | false =>
              go_wp2_with (go_at_call 10; refine (classOf_lo s[pos] _ hasc).mono ?_; rintro e w' ⟨rfl, rfl⟩)
              go_ret
              exact ⟨pos, rfl, HST.out, hb2⟩
      · have hhi := decode_high s pos hp (by omega)
        have hnx : ∀ ty, (Instr.next (.pointer (some ⟨w.heap.size, 0, none⟩)) true ty).run Tryd.prog wr = _ := fun ty => Lib.run_next_any_at wr w.heap.size s pos ty hit hp
        have hb2 := Lib.below_iterAt hb (Nat.le_refl _) s (pos + (Utf8.decode s pos).2)
        have hz2 := Lib.iterAt_size wr w.heap.size s (pos + (Utf8.decode s pos).2)
        have HZ2 := hid hz2
        have HST := hid (span_stop (b := b) hpl H.out (fun _ => by
          have e1 : Lx.isDig s[pos] = false := by
            cases hq : Lx.isDig s[pos] with
            | false => rfl
            | true => have := (isDig_iff _).1 hq; omega
          have e2 : Lx.isLet s[pos] = false := by
            cases hq : Lx.isLet s[pos] with
            | false => rfl
            | true => have := (isLet_iff _).1 hq; omega
          simp [spanP, e1, e2]))
        have h128 : (128 : Int) ≤ ((Utf8.decode s pos).1 : Int) := by omega
        clear hz2 hhi
        cases b with
        | true =>
          go_wp2_with (go_at_call 10; refine (classOf_hi _ _ h128).mono ?_; rintro e w1 ⟨rfl, hbc⟩)
          go_ret
          exact ⟨pos, rfl, HST.out, hb2.trans (hbc.mono (by rw [HZ2.out]; omega))⟩
        | false =>
          go_wp2_with (go_at_call 10; refine (classOf_hi _ _ h128).mono ?_; rintro e w1 ⟨rfl, hbc⟩)
          go_ret
          exact ⟨pos, rfl, HST.out, hb2.trans (hbc.mono (by rw [HZ2.out]; omega))⟩
    · have hnx : ∀ ty, (Instr.next (.pointer (some ⟨w.heap.size, 0, none⟩)) true ty).run Tryd.prog wr = _ := fun ty => Lib.run_next_end_at wr w.heap.size s pos ty hit hp
      have hpe : pos = s.size := by omega
      have HST := hid (span_stop (b := b) hpl H.out (fun h => absurd h hp))
      subst hpe
      go_wp2
      go_ret
      exact ⟨s.size, rfl, HST.out, hb⟩
end Go.Proofs.YtkckmfnmdkfkaaaDoor
