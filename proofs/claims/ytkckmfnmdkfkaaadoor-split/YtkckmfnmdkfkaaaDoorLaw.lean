/-
  The statement Tokens, as a call: for every text it answers true, and nothing that was there has turned.
-/
import Derived.Test.YtkckmfnmdkfkaaaDoorLexH
import Derived.Test.YtkckmfnmdkfkaaaDoorSame
namespace Go.Proofs.YtkckmfnmdkfkaaaDoor
open Go.RowKit

theorem lex_len (N : Nat) : ∀ (f pos : Nat) (l : List UInt8) (ts : List Lx.Tk), Lx.lexF N f pos l = .ok ts → ts.length ≤ l.length + 1 := by
  intro f
  induction f with
  | zero => intro pos l ts h; simp [Lx.lexF] at h
  | succ f ih =>
    intro pos l ts h
    cases l with
    | nil =>
      simp only [Lx.lexF, Except.ok.injEq] at h
      rw [← h]; simp
    | cons c r =>
      rw [Lx.lexF] at h
      by_cases h1 : Lx.isBl c = true
      · rw [if_pos h1] at h
        have := ih _ _ _ h
        simp; omega
      · rw [if_neg h1] at h
        by_cases h2 : c.toNat = 35
        · rw [if_pos h2] at h
          have := ih _ _ _ h
          have := Lx.dropWhile_len c r h2
          simp; omega
        · rw [if_neg h2] at h
          cases hT : Lx.tokAt pos (c :: r) with
          | error e => rw [hT] at h; cases h
          | ok x =>
            obtain ⟨t, n⟩ := x
            rw [hT] at h
            have hp := Lx.tokAt_pos hT
            simp only [] at h
            cases hR : Lx.lexF N f (pos + n) ((c :: r).drop n) with
            | error e => rw [hR] at h; cases h
            | ok us =>
              rw [hR] at h
              simp only [Lx.consTo, Except.ok.injEq] at h
              have := ih _ _ _ hR
              rw [← h]
              simp at this hp ⊢
              omega

theorem answer_len (s : ByteArray) : (answer s).2.2.length ≤ 3001 := by
  unfold answer
  by_cases h : 3000 < s.size
  · rw [if_pos h]; simp
  · rw [if_neg h]
    cases hL : Lx.lex s.size 0 s.data.toList with
    | error e => obtain ⟨k, p⟩ := e; simp [endOf]
    | ok ts =>
      have := lex_len _ _ _ _ _ hL
      simp [endOf] at this ⊢
      omega

theorem tokPost_out {s : ByteArray} {w w' : World} {e : Ending} {fk fp : Nat} {ts : List Lx.Tk} (hA : answer s = (fk, fp, ts)) (h : TokPost s w e w') :
    ∃ v, e = .returned (.tuple #[v, .agg #[.int .i64 fk, .int .i64 fp]]) ∧ w'.ownsRow w.heap.size 31 4 v ts.length (cellsOf ts) ∧ Below w.heap.size w w' := by
  obtain ⟨v, he, ho, hb⟩ := h
  rw [hA] at he ho
  exact ⟨v, he, ho, hb⟩

theorem flt_after {w1 w2 : World} {a b : Value} {e : TypeId} (hb : Below (w1.alloc (.cells #[a, b] e)).heap.size (w1.alloc (.cells #[a, b] e)) w2) :
    w2.cell? ⟨w1.heap.size, 0, none⟩ = some a ∧ w2.cell? ⟨w1.heap.size, 1, none⟩ = some b := by
  obtain ⟨hc, _⟩ := bcell hb
  exact ⟨(hc _ _ (by simp)).trans (by simp), (hc _ _ (by simp)).trans (by simp)⟩

set_option maxRecDepth 100000 in
set_option maxHeartbeats 1000000 in
theorem tokens_call (s : ByteArray) (w : World) (ev : Value) (hmax : s.size ≤ 140737488351232) (h2 : 2 < w.heap.size) (hv : w.cell? ⟨2, 0, none⟩ = some ev) (hev : ev = .nilIface ∨ ∃ te pe, ev = .iface te pe) :
    Calls Tryd.prog 3 #[.string s] w fun e w' => e = .returned (.bool true) ∧ Below w.heap.size w w' := by
  obtain ⟨fk, fp, ts, hA⟩ : ∃ fk fp ts, answer s = (fk, fp, ts) := ⟨_, _, _, rfl⟩
  have hlen : ts.length ≤ 3001 := by have := answer_len s; rw [hA] at this; exact this
  have HA := hid hA
  clear hA
  go_enter Tryd.func3, Tryd.ntmps3
  go_wp2_with fail
  refine (ltokens_any s _ ev hmax h2 hv hev).mono ?_
  intro e w1 hp1
  obtain ⟨v1, rfl, ho1, hb1⟩ := tokPost_out HA.out hp1
  have HO1 := hid ho1
  have HB1 := hid hb1
  have hz1 := hb1.size
  clear ho1 hb1 hp1
  go_wp2_with fail
  refine (rtokens_any s _ hmax).mono ?_
  intro e w2 hp2
  obtain ⟨v2, rfl, ho2, hb2⟩ := tokPost_out HA.out hp2
  obtain ⟨c0, c1⟩ := flt_after hb2
  have HB2 := hid hb2
  have hz2 := hb2.size
  have HO1b := hid (own_below (HO1.out.alloc _) hb2)
  have HO2 := hid ho2
  clear ho2 hb2 hp2
  have hz3 : w1.heap.size < w2.heap.size := by simp at hz2; omega
  go_wp2_with (go_at_call 7; refine (same_any ts _ _ _ _ _ (HO1b.out.alloc _) (HO2.out.alloc _) hlen).mono ?_; rintro e w3 ⟨rfl, nq, rfl⟩)
  go_ret
  exact ⟨rfl, below_drewN ((HB1.out.trans ((below_one HB2.out).mono hz1)).alloc (by omega) _) nq⟩
end Go.Proofs.YtkckmfnmdkfkaaaDoor
