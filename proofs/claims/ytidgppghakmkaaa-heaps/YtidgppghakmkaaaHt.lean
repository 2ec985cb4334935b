/-
  The program's range over what is marked: kept.
-/
import Derived.Test.YtidgppghakmkaaaHs
import Derived.Shelf.Abstract
import Derived.Shelf.RegionOpen
import Derived.OwnWalkIn
import Derived.TacticsInMore
import Derived.LoopNIn
import Derived.LoopIn
set_option linter.unusedVariables false
set_option linter.unusedSimpArgs false
namespace Go.Proofs.Ytidgppghakmkaaa
open Go.RowKit Go.Shelf Hp
attribute [local go_sem] Oper.semAt_some

/-- The things that are marked, up to the i-th. -/
def upTo (m : Nat → Bool) (i : Nat) : List Nat := (List.range i).filter m
theorem upTo_succ (m : Nat → Bool) (i : Nat) : upTo m (i + 1) = upTo m i ++ (if m i then [i] else []) := by
  unfold upTo
  rw [List.range_succ, List.filter_append]
  cases h : m i <;> simp [h]
theorem upTo_split (m : Nat → Bool) {i n : Nat} (h : i < n) (hm : m i = true) : ∃ rest, upTo m n = upTo m i ++ i :: rest := by
  induction n with
  | zero => omega
  | succ n ih =>
    by_cases e : i = n
    · subst e; exact ⟨[], by rw [upTo_succ, hm]; rfl⟩
    · obtain ⟨rest, hr⟩ := ih (by omega)
      refine ⟨rest ++ (if m n then [n] else []), ?_⟩
      rw [upTo_succ, hr]; simp
theorem upTo_lt {m : Nat → Bool} {i j : Nat} (h : j ∈ upTo m i) : j < i := List.mem_range.1 (List.mem_filter.1 h).1
/-- What the range reads. -/
def KRd (hb g N : Nat) (T : List Th) (m : Nat → Bool) (pre : List Nat) (W : World) : Prop :=
  ∃ f, HM W hb g N f (used T) ∧ ∀ i t, T[i]? = some t → (∀ j ∈ pre, j < i) → (f (ad T i)).is = (if m i then 3 else 2) ∧ (f (ad T i)).size = (t.l.length : Nat)

set_option maxRecDepth 100000 in
set_option maxHeartbeats 8000000 in
theorem kept_goes (w : World) (hb g N : Nat) (T : List Th) (m : Nat → Bool) :
    GoesR Try.prog 33 #[.pointer (some ⟨hb, 0, none⟩)] #[] (fun i : Nat => #[.int .i64 (ad T i : Nat)]) (upTo m T.length) (KRd hb g N T m) w := by
  intro l J O hJ hRd hY h0
  refine callsIn_of_wp Try.func33 rfl trivial ?_ rfl
  simp only [Try.ntmps33, List.size_toArray, List.length_cons, List.length_nil, Nat.reduceAdd, Nat.reduceSub, Array.replicate_succ, Array.replicate_zero, List.push_toArray, List.append_toArray, List.nil_append, List.cons_append]
  gi_wp2
  gi_loopw [4] (fun v wr => ∃ (i : Nat) (O1 : Nat → Prop), v = .int .i64 (ad T i : Nat) ∧ i ≤ T.length ∧ J (upTo m i) O1 wr ∧ Ch O w wr ∧ (∀ j, O1 j → O j ∨ w.heap.size ≤ j)) (fun v _ => used T - (intOf v).toNat)
  case atStart => exact ⟨0, O, by rw [ad_zero]; rfl, by omega, h0, Ch.refl _ _, fun _ h => .inl h⟩
  case round =>
    obtain ⟨i, O1, rfl, hi, hJi, hci, hsub⟩ := hrel
    obtain ⟨f, HF, hf⟩ := hRd _ _ _ hJi
    obtain ⟨c0, c1, -⟩ := HF.head
    by_cases e : i = T.length
    · subst e
      rw [ad_all]
      gi_wp2
      go_end0
      exact ⟨⟨_, rfl⟩, O1, hJi, hci, hsub⟩
    · have hlt : i < T.length := by omega
      obtain ⟨t, ht⟩ : ∃ t, T[i]? = some t := ⟨_, List.getElem?_eq_getElem hlt⟩
      obtain ⟨fi, fs⟩ := hf i t ht (fun j hj => upTo_lt hj)
      have hu := ad_used ht
      have hs : t.size = t.l.length + 1 := rfl
      have hle := HF.le
      have hmx := HF.max
      have haN : ad T i < N := by omega
      have haNI : ((ad T i : Nat) : Int) < (N : Int) := by omega
      have hauI : ((ad T i : Nat) : Int) < (used T : Int) := by omega
      obtain ⟨d0, d1, d2, d3, d4⟩ := HF.five haN
      rw [fi] at d0
      rw [fs] at d3
      have hw1 : IntKind.i64.wrap ((t.l.length : Nat) : Int) = ((t.l.length : Nat) : Int) := IntWalk.i64_in _ (by omega)
      have hw2 : IntKind.i64.wrap (((t.l.length : Nat) : Int) + 1) = ((t.l.length : Nat) : Int) + 1 := IntWalk.i64_in _ (by omega)
      have hw3 : IntKind.i64.wrap (((ad T i : Nat) : Int) + (((t.l.length : Nat) : Int) + 1)) = ((ad T (i + 1) : Nat) : Int) := by rw [IntWalk.i64_in _ (by omega), ad_succ ht]; omega
      have hnx := ad_succ ht
      cases hm : m i with
      | false =>
        simp only [hm] at d0
        have eu : upTo m (i + 1) = upTo m i := by rw [upTo_succ, hm]; simp
        gi_wp2
        refine ⟨fun _ h => (by cases h), ?_⟩
        gi_wp2
        go_roundw
        case rel =>
          refine ⟨i + 1, O1, congrArg (Value.int .i64) (by rw [hnx, hs]; omega), by omega, ?_, hci.al _, hsub⟩
          rw [eu]
          exact hJ.keep _ _ _ _ hJi ⟨rfl, rfl⟩ (by simp) (fun k hk => Below.heap_alloc _ _ _ (by rcases hk with h | h; exact hJ.lt _ _ _ _ hJi h; have := hci.size; omega))
        case measure => simp [intOf]; omega
      | true =>
        simp only [hm, if_true] at d0
        have eu : upTo m (i + 1) = upTo m i ++ [i] := by rw [upTo_succ, hm]; simp
        have hJa : J (upTo m i) O1 (wr.alloc (.cells #[.int .u8 3, .int .u8 (f (ad T i)).kind, .int .u16 (f (ad T i)).tag, .int .u32 (t.l.length : Nat), .int .i64 (f (ad T i)).n] 61)) :=
          hJ.keep _ _ _ _ hJi ⟨rfl, rfl⟩ (by simp) (fun k hk => Below.heap_alloc _ _ _ (by rcases hk with h | h; exact hJ.lt _ _ _ _ hJi h; have := hci.size; omega))
        obtain ⟨fn, tmps, assign, body, hy, hR⟩ := hY _ _ O1 _ hJa (upTo_split m hlt hm)
        have hB : (wr.alloc (.cells #[.int .u8 3, .int .u8 (f (ad T i)).kind, .int .u16 (f (ad T i)).tag, .int .u32 (t.l.length : Nat), .int .i64 (f (ad T i)).n] 61)).heap[wr.heap.size]? = some (.cells #[.int .u8 3, .int .u8 (f (ad T i)).kind, .int .u16 (f (ad T i)).tag, .int .u32 (t.l.length : Nat), .int .i64 (f (ad T i)).n] 61 (0, 0)) := World.alloc_heap_new _ _
        have hcA : Ch O w (wr.alloc (.cells #[.int .u8 3, .int .u8 (f (ad T i)).kind, .int .u16 (f (ad T i)).tag, .int .u32 (t.l.length : Nat), .int .i64 (f (ad T i)).n] 61)) := hci.al _
        have hnO : ¬ O1 wr.heap.size := fun h => by have := hJ.lt _ _ _ _ hJi h; omega
        have HB := hid hB
        have HcA := hid hcA
        clear hB hcA
        gi_wp2
        refine ⟨rfl, hR.mono ?_⟩
        rintro e W3 ⟨rfl, O2, hJ3, hc3, hs3⟩
        have z3 : W3.cell? ⟨wr.heap.size, 3, none⟩ = some (.int .u32 (t.l.length : Nat)) := by
          rw [hc3.cell (p := ⟨wr.heap.size, 3, none⟩) (Array.getElem?_eq_some_iff.1 HB.out).1 hnO]
          unfold World.cell?
          rw [HB.out]
          rfl
        have hsz := HcA.out.size
        have hc4 := hid (HcA.out.trans hc3 hsub)
        replace hs3 := hid hs3
        clear hc3 HB HcA hR hy d0 d1 d2 d3 d4 c0 c1
        dsimp only
        gi_wp2
        go_roundw
        case rel =>
          refine ⟨i + 1, O2, congrArg (Value.int .i64) (by rw [hnx, hs]; omega), by omega, ?_, hc4.out, fun j hj => ?_⟩
          · rw [eu]; exact hJ3
          · rcases hs3.out j hj with h | h
            · exact hsub j h
            · exact .inr (by omega)
        case measure => simp [intOf]; omega
end Go.Proofs.Ytidgppghakmkaaa
