/-
  The program's heap: Kind, Tag, Len, has, Used, room, Get, Set, enter, last.
-/
import Derived.Test.YtidgppghakmkaaaHm
set_option linter.unusedVariables false
set_option linter.unusedSimpArgs false
namespace Go.Proofs.Ytidgppghakmkaaa
open Go.RowKit Hp

/-- The numbers of a cell are small ones. -/
def PC.ok (c : PC) : Prop := (0 ≤ c.is ∧ c.is ≤ 255) ∧ (0 ≤ c.kind ∧ c.kind ≤ 255) ∧ (0 ≤ c.tag ∧ c.tag ≤ 65535) ∧ (0 ≤ c.size ∧ c.size ≤ 4294967295)
theorem firstF_ok {f : Nat → PC} {u : Nat} (h : ∀ a, PC.ok (f a)) (a : Int) : PC.ok (firstF f u a) := by
  unfold firstF
  split
  · exact h _
  · exact ⟨⟨by decide, by decide⟩, ⟨by decide, by decide⟩, ⟨by decide, by decide⟩, ⟨by decide, by decide⟩⟩

set_option maxRecDepth 100000 in
set_option maxHeartbeats 2000000 in
theorem Kind_any (w : World) (hb g N : Nat) (f : Nat → PC) (u : Nat) (H : HM w hb g N f u) (a : Int) (hok : PC.ok (firstF f u a)) :
    Calls Try.prog 28 #[.pointer (some ⟨hb, 0, none⟩), .int .i64 a] w fun e w' => e = .returned (.int .i64 (firstF f u a).kind) ∧ Ch (fun _ => False) w w' := by
  have HF := first_any w hb g N f u H a
  obtain ⟨h1, h2, h3, h4⟩ := hok
  generalize firstF f u a = c at *
  unfold pcV at HF
  have hw : IntKind.i64.wrap c.kind = c.kind := IntWalk.i64_in _ (by omega)
  have hfd : ∀ W : World, Sem.run Try.prog (Instr.field 61 (.agg #[.int .u8 c.is, .int .u8 c.kind, .int .u16 c.tag, .int .u32 c.size, .int .i64 c.n]) 1) W = .ok (.int .u8 c.kind) W := fun W => by kernel_rfl
  go_enter Try.func28, Try.ntmps28
  go_wp2_with (go_at_call 34; refine HF.mono ?_; clear HF; rintro e w1 ⟨rfl, hc⟩; replace hc := hid hc)
  go_ret
  exact ⟨rfl, hc.out⟩

set_option maxRecDepth 100000 in
set_option maxHeartbeats 2000000 in
theorem Tag_any (w : World) (hb g N : Nat) (f : Nat → PC) (u : Nat) (H : HM w hb g N f u) (a : Int) (hok : PC.ok (firstF f u a)) :
    Calls Try.prog 29 #[.pointer (some ⟨hb, 0, none⟩), .int .i64 a] w fun e w' => e = .returned (.int .i64 (firstF f u a).tag) ∧ Ch (fun _ => False) w w' := by
  have HF := first_any w hb g N f u H a
  obtain ⟨h1, h2, h3, h4⟩ := hok
  generalize firstF f u a = c at *
  unfold pcV at HF
  have hw : IntKind.i64.wrap c.tag = c.tag := IntWalk.i64_in _ (by omega)
  have hfd : ∀ W : World, Sem.run Try.prog (Instr.field 61 (.agg #[.int .u8 c.is, .int .u8 c.kind, .int .u16 c.tag, .int .u32 c.size, .int .i64 c.n]) 2) W = .ok (.int .u16 c.tag) W := fun W => by kernel_rfl
  go_enter Try.func29, Try.ntmps29
  go_wp2_with (go_at_call 34; refine HF.mono ?_; clear HF; rintro e w1 ⟨rfl, hc⟩; replace hc := hid hc)
  go_ret
  exact ⟨rfl, hc.out⟩

set_option maxRecDepth 100000 in
set_option maxHeartbeats 2000000 in
theorem Len_any (w : World) (hb g N : Nat) (f : Nat → PC) (u : Nat) (H : HM w hb g N f u) (a : Int) (hok : PC.ok (firstF f u a)) :
    Calls Try.prog 30 #[.pointer (some ⟨hb, 0, none⟩), .int .i64 a] w fun e w' => e = .returned (.int .i64 (firstF f u a).size) ∧ Ch (fun _ => False) w w' := by
  have HF := first_any w hb g N f u H a
  obtain ⟨h1, h2, h3, h4⟩ := hok
  generalize firstF f u a = c at *
  unfold pcV at HF
  have hw : IntKind.i64.wrap c.size = c.size := IntWalk.i64_in _ (by omega)
  have hfd : ∀ W : World, Sem.run Try.prog (Instr.field 61 (.agg #[.int .u8 c.is, .int .u8 c.kind, .int .u16 c.tag, .int .u32 c.size, .int .i64 c.n]) 3) W = .ok (.int .u32 c.size) W := fun W => by kernel_rfl
  go_enter Try.func30, Try.ntmps30
  go_wp2_with (go_at_call 34; refine HF.mono ?_; clear HF; rintro e w1 ⟨rfl, hc⟩; replace hc := hid hc)
  go_ret
  exact ⟨rfl, hc.out⟩

set_option maxHeartbeats 2000000 in
theorem used_any (w : World) (hb g N : Nat) (f : Nat → PC) (u : Nat) (H : HM w hb g N f u) :
    Calls Try.prog 27 #[.pointer (some ⟨hb, 0, none⟩)] w fun e w' => e = .returned (.int .i64 u) ∧ w' = w := by
  obtain ⟨h0, h1, -⟩ := H.head
  go_enter Try.func27, Try.ntmps27
  go_wp2
  go_ret
  exact ⟨rfl, rfl⟩
set_option maxRecDepth 100000 in
set_option maxHeartbeats 2000000 in
theorem room_any (w : World) (hb g N : Nat) (f : Nat → PC) (u : Nat) (H : HM w hb g N f u) (n : Nat) (hn : n ≤ 1000000) :
    Calls Try.prog 16 #[.pointer (some ⟨hb, 0, none⟩), .int .i64 n] w fun e w' => e = .returned (.bool (decide (u + n + 1 ≤ N))) ∧ Ch (fun _ => False) w w' := by
  obtain ⟨h0, h1, -⟩ := H.head
  have hu := H.le
  have hm := H.max
  have w1 : IntKind.i64.wrap ((u : Int) + (n : Int)) = (u : Int) + n := IntWalk.i64_in _ (by omega)
  have w2 : IntKind.i64.wrap ((u : Int) + (n : Int) + 1) = (u : Int) + n + 1 := IntWalk.i64_in _ (by omega)
  clear H
  go_enter Try.func16, Try.ntmps16
  go_wp2
  go_quiet (fail)
  go_wp2
  go_ret
  have e : decide ((u : Int) + (n : Int) + 1 ≤ (N : Int)) = decide (u + n + 1 ≤ N) := by
    rw [Bool.eq_iff_iff]
    simp
    omega
  refine ⟨?_, ⟨Nat.le_refl _, fun _ _ _ => rfl, rfl, rfl⟩⟩
  show Ending.returned (Value.bool _) = _
  rw [e]
set_option maxRecDepth 100000 in
set_option maxHeartbeats 2000000 in
theorem has_any (w : World) (hb g N : Nat) (f : Nat → PC) (u : Nat) (H : HM w hb g N f u) (a i : Int) (hok : PC.ok (firstF f u a)) :
    Calls Try.prog 19 #[.pointer (some ⟨hb, 0, none⟩), .int .i64 a, .int .i64 i] w fun e w' => e = .returned (.bool (decide (0 ≤ i) && decide (i < (firstF f u a).size))) ∧ Ch (fun _ => False) w w' := by
  have HL := Len_any w hb g N f u H a hok
  generalize firstF f u a = c at *
  clear H hok
  by_cases hi : 0 ≤ i
  · go_enter Try.func19, Try.ntmps19
    go_wp2_with (go_at_call 30; refine HL.mono ?_; clear HL; rintro e w1 ⟨rfl, hc⟩; replace hc := hid hc)
    go_ret
    exact ⟨by simp [hi], hc.out⟩
  · go_enter Try.func19, Try.ntmps19
    go_wp2
    go_ret
    exact ⟨by simp [hi]; omega, Ch.refl _ _⟩
set_option maxRecDepth 100000 in
set_option maxHeartbeats 2000000 in
theorem last_any (w : World) (hb g N : Nat) (f : Nat → PC) (u : Nat) (H : HM w hb g N f u) (a q : Nat) (ha : a < N) (hq : (f a).n = (q : Int)) (hl : a + q < N) :
    Calls Try.prog 37 #[.pointer (some ⟨hb, 0, none⟩), .int .i64 a] w fun e w' => e = .returned (.pointer (some ⟨g, (a + q) * 5, none⟩)) ∧ Ch (fun _ => False) w w' := by
  obtain ⟨h0, h1, -⟩ := H.head
  obtain ⟨-, -, -, -, c4⟩ := H.five ha
  rw [hq] at c4
  have hm := H.max
  have haN : (a : Int) < (N : Int) := by omega
  have hlN : (a : Int) + (q : Int) < (N : Int) := by omega
  have hl0 : (0 : Int) ≤ (a : Int) + (q : Int) := by omega
  have w1 : IntKind.i64.wrap ((a : Int) + (q : Int)) = (a : Int) + q := IntWalk.i64_in _ (by omega)
  have ht : ((a : Int) + (q : Int)).toNat = a + q := by omega
  clear H
  go_enter Try.func37, Try.ntmps37
  go_wp2
  go_quiet (fail)
  go_wp2
  go_ret
  exact ⟨rfl, ⟨Nat.le_refl _, fun _ _ _ => rfl, rfl, rfl⟩⟩
end Go.Proofs.Ytidgppghakmkaaa
