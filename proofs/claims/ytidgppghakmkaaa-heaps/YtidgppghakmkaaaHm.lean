/-
  The program's heap in memory; lies, first, Kind, Tag, Len, Used, room.
-/
import Derived.Test.YtidgppghakmkaaaHd
import Derived.Test.YtidgppghakmkaaaOa
set_option linter.unusedVariables false
set_option linter.unusedSimpArgs false
namespace Go.Proofs.Ytidgppghakmkaaa
open Go.RowKit

theorem hid {p : Prop} (h : p) : Hid p := h
namespace Hp
/-- A cell's five values. -/
def cv (c : PC) : Nat → Value
  | 0 => .int .u8 c.is
  | 1 => .int .u8 c.kind
  | 2 => .int .u16 c.tag
  | 3 => .int .u32 c.size
  | _ => .int .i64 c.n
def pcV (c : PC) : Value := .agg #[.int .u8 c.is, .int .u8 c.kind, .int .u16 c.tag, .int .u32 c.size, .int .i64 c.n]
def rowC (f : Nat → PC) (N : Nat) : Array Value := Array.ofFn (n := N * 5) fun i => cv (f (i.1 / 5)) (i.1 % 5)
theorem rowC_all (f : Nat → PC) (N i : Nat) : (rowC f N)[i]? = if i < N * 5 then some (cv (f (i / 5)) (i % 5)) else none := by
  unfold rowC
  rw [Array.getElem?_ofFn]
  split <;> rfl
theorem rowC_size (f : Nat → PC) (N : Nat) : (rowC f N).size = N * 5 := by simp [rowC]
theorem rowC_get (f : Nat → PC) {N a k : Nat} (ha : a < N) (hk : k < 5) : (rowC f N)[a * 5 + k]? = some (cv (f a) k) := by
  have e1 : (a * 5 + k) / 5 = a := by omega
  have e2 : (a * 5 + k) % 5 = k := by omega
  rw [rowC_all, if_pos (by omega), e1, e2]
theorem rowC_set (f : Nat → PC) {N a k : Nat} (c : PC) (ha : a < N) (hk : k < 5) (h : ∀ j, j < 5 → j ≠ k → cv c j = cv (f a) j) : (rowC f N).setIfInBounds (a * 5 + k) (cv c k) = rowC (upd f a c) N := by
  apply Array.ext_getElem?
  intro i
  rw [Array.getElem?_setIfInBounds, rowC_all, rowC_all, rowC_size]
  unfold upd
  by_cases hi : i < N * 5
  · by_cases e : i / 5 = a
    · by_cases e2 : a * 5 + k = i
      · rw [if_pos e2, if_pos (by omega), if_pos hi, if_pos e]
        congr 2
        omega
      · rw [if_neg e2, if_pos hi, if_pos hi, if_pos e, e, h (i % 5) (by omega) (by omega)]
    · rw [if_neg (by omega), if_pos hi, if_pos hi, if_neg e]
  · rw [if_neg (by omega), if_neg hi, if_neg hi]
end Hp
open Hp

/-- A heap in the block hb: its row of N cells in the block g. -/
structure HM (w : World) (hb g N : Nat) (f : Nat → PC) (u : Nat) : Prop where
  hd : w.heap[hb]? = some (.cells #[.slice (some ⟨g, 0, none⟩) N N, .int .i64 u] 56 (0, 0))
  row : w.heap[g]? = some (.cells (rowC f N) 61 (0, 0))
  ne : hb ≠ g
  le : u ≤ N
  max : N ≤ 1000000
theorem HM.head {w : World} {hb g N : Nat} {f : Nat → PC} {u : Nat} (H : HM w hb g N f u) : w.cell? ⟨hb, 0, none⟩ = some (.slice (some ⟨g, 0, none⟩) N N) ∧ w.cell? ⟨hb, 1, none⟩ = some (.int .i64 u) ∧ ∀ i, w.frozen? ⟨hb, i, none⟩ = false := by
  have h := H.hd
  refine ⟨?_, ?_, fun i => ?_⟩ <;> simp [World.cell?, World.frozen?, h]
theorem HM.cell {w : World} {hb g N : Nat} {f : Nat → PC} {u : Nat} (H : HM w hb g N f u) {a k : Nat} (ha : a < N) (hk : k < 5) : w.cell? ⟨g, a * 5 + k, none⟩ = some (cv (f a) k) := by
  have := rowC_get f ha hk
  simp [World.cell?, H.row, this]
theorem HM.fz {w : World} {hb g N : Nat} {f : Nat → PC} {u : Nat} (H : HM w hb g N f u) (i : Nat) : w.frozen? ⟨g, i, none⟩ = false := by simp [World.frozen?, H.row]
theorem HM.five {w : World} {hb g N : Nat} {f : Nat → PC} {u : Nat} (H : HM w hb g N f u) {a : Nat} (ha : a < N) : w.cell? ⟨g, a * 5, none⟩ = some (.int .u8 (f a).is) ∧ w.cell? ⟨g, a * 5 + 1, none⟩ = some (.int .u8 (f a).kind) ∧ w.cell? ⟨g, a * 5 + 2, none⟩ = some (.int .u16 (f a).tag) ∧ w.cell? ⟨g, a * 5 + 3, none⟩ = some (.int .u32 (f a).size) ∧ w.cell? ⟨g, a * 5 + 4, none⟩ = some (.int .i64 (f a).n) :=
  ⟨H.cell (k := 0) ha (by omega), H.cell (k := 1) ha (by omega), H.cell (k := 2) ha (by omega), H.cell (k := 3) ha (by omega), H.cell (k := 4) ha (by omega)⟩
theorem HM.keep {w w' : World} {hb g N : Nat} {f : Nat → PC} {u : Nat} (H : HM w hb g N f u) (hc : Ch (fun _ => False) w w') : HM w' hb g N f u :=
  ⟨(hc.same hb (Array.getElem?_eq_some_iff.1 H.hd).1 (fun h => h)).trans H.hd, (hc.same g (Array.getElem?_eq_some_iff.1 H.row).1 (fun h => h)).trans H.row, H.ne, H.le, H.max⟩
theorem HM.dr {w : World} {hb g N : Nat} {f : Nat → PC} {u : Nat} (H : HM w hb g N f u) : HM w.drew hb g N f u := ⟨H.hd, H.row, H.ne, H.le, H.max⟩
/-- A cell is written in part. -/
theorem HM.set {w : World} {hb g N : Nat} {f : Nat → PC} {u : Nat} (H : HM w hb g N f u) {a k : Nat} (c : PC) (ha : a < N) (hk : k < 5) (h : ∀ j, j < 5 → j ≠ k → cv c j = cv (f a) j) : HM (w.setCell ⟨g, a * 5 + k, none⟩ (cv c k)) hb g N (Hp.upd f a c) u := by
  refine ⟨blk_other H.hd H.ne, ?_, H.ne, H.le, H.max⟩
  rw [blk_set H.row, rowC_set f c ha hk h]

/-- Does a thing lie at an address? -/
def liesF (f : Nat → PC) (u : Nat) (a : Int) : Bool := decide (0 ≤ a) && decide (a < (u : Int)) && decide (2 ≤ (f a.toNat).is)
def zeroC : PC := ⟨0, 0, 0, 0, 0⟩
def firstF (f : Nat → PC) (u : Nat) (a : Int) : PC := if liesF f u a then f a.toNat else zeroC

set_option maxRecDepth 100000 in
set_option maxHeartbeats 2000000 in
theorem lies_any (w : World) (hb g N : Nat) (f : Nat → PC) (u : Nat) (H : HM w hb g N f u) (a : Int) :
    Calls Try.prog 31 #[.pointer (some ⟨hb, 0, none⟩), .int .i64 a] w fun e w' => e = .returned (.bool (liesF f u a)) ∧ w' = w := by
  obtain ⟨h0, h1, -⟩ := H.head
  by_cases ha : 0 ≤ a
  · obtain ⟨n, rfl⟩ : ∃ n : Nat, a = (n : Int) := ⟨a.toNat, by omega⟩
    by_cases hu : (n : Int) < (u : Int)
    · have hle := H.le
      have hn : n < N := by omega
      have hnN : (n : Int) < (N : Int) := by omega
      obtain ⟨c0, -⟩ := H.five hn
      have e : liesF f u (n : Int) = decide (2 ≤ (f n).is) := by simp [liesF, hu]
      rw [e]
      clear e H
      go_enter Try.func31, Try.ntmps31
      go_wp2
      go_ret
      exact ⟨by first | rfl | simp, rfl⟩
    · have e : liesF f u (n : Int) = false := by simp [liesF, hu]
      rw [e]
      clear e H
      go_enter Try.func31, Try.ntmps31
      go_wp2
      go_ret
      exact ⟨rfl, rfl⟩
  · have e : liesF f u a = false := by simp [liesF, ha]
    rw [e]
    clear e H
    go_enter Try.func31, Try.ntmps31
    go_wp2
    go_ret
    exact ⟨rfl, rfl⟩

set_option maxRecDepth 100000 in
set_option maxHeartbeats 2000000 in
theorem first_any (w : World) (hb g N : Nat) (f : Nat → PC) (u : Nat) (H : HM w hb g N f u) (a : Int) :
    Calls Try.prog 34 #[.pointer (some ⟨hb, 0, none⟩), .int .i64 a] w fun e w' => e = .returned (pcV (firstF f u a)) ∧ Ch (fun _ => False) w w' := by
  obtain ⟨V, hV⟩ : ∃ V, w.alloc (.cells #[.int .u8 0, .int .u8 0, .int .u16 0, .int .u32 0, .int .i64 0] 61) = V := ⟨_, rfl⟩
  have hcV : Ch (fun _ => False) w V := by rw [← hV]; exact (Ch.refl _ w).al _
  have hB : V.heap[w.heap.size]? = some (.cells #[.int .u8 0, .int .u8 0, .int .u16 0, .int .u32 0, .int .i64 0] 61 (0, 0)) := by rw [← hV]; exact World.alloc_heap_new w _
  have HV := H.keep hcV
  obtain ⟨h0, h1, -⟩ := HV.head
  have HL := lies_any V hb g N f u HV a
  have b0 : V.cell? ⟨w.heap.size, 0, none⟩ = some (.int .u8 0) := by simp [World.cell?, hB]
  have b1 : V.cell? ⟨w.heap.size, 1, none⟩ = some (.int .u8 0) := by simp [World.cell?, hB]
  have b2 : V.cell? ⟨w.heap.size, 2, none⟩ = some (.int .u16 0) := by simp [World.cell?, hB]
  have b3 : V.cell? ⟨w.heap.size, 3, none⟩ = some (.int .u32 0) := by simp [World.cell?, hB]
  have b4 : V.cell? ⟨w.heap.size, 4, none⟩ = some (.int .i64 0) := by simp [World.cell?, hB]
  have bf : ∀ i, V.frozen? ⟨w.heap.size, i, none⟩ = false := fun i => by simp [World.frozen?, hB]
  have HB := hid hB
  have HcV := hid hcV
  clear hB hcV
  have fin : ∀ (c : PC) (a' : Act), a'.defers = [] → a'.tmps[4]? = some (.pointer (some ⟨w.heap.size, 0, none⟩)) → firstF f u a = c →
      bodyPost Try.prog Try.f34 (fun e w' => e = .returned (pcV (firstF f u a)) ∧ Ch (fun _ => False) w w') .ret a' (((((V.setCell ⟨w.heap.size, 0, none⟩ (.int .u8 c.is)).setCell ⟨w.heap.size, 1, none⟩ (.int .u8 c.kind)).setCell ⟨w.heap.size, 2, none⟩ (.int .u16 c.tag)).setCell ⟨w.heap.size, 3, none⟩ (.int .u32 c.size)).setCell ⟨w.heap.size, 4, none⟩ (.int .i64 c.n)) := by
    intro c a' hd h4 hc
    have hY := blk_set (i := 4) (v := .int .i64 c.n) (blk_set (i := 3) (v := .int .u32 c.size) (blk_set (i := 2) (v := .int .u16 c.tag) (blk_set (i := 1) (v := .int .u8 c.kind) (blk_set (i := 0) (v := .int .u8 c.is) HB.out))))
    have hcY : Ch (fun _ => False) w (((((V.setCell ⟨w.heap.size, 0, none⟩ (.int .u8 c.is)).setCell ⟨w.heap.size, 1, none⟩ (.int .u8 c.kind)).setCell ⟨w.heap.size, 2, none⟩ (.int .u16 c.tag)).setCell ⟨w.heap.size, 3, none⟩ (.int .u32 c.size)).setCell ⟨w.heap.size, 4, none⟩ (.int .i64 c.n)) :=
      HcV.out.trans ((((((Ch.refl (fun k => k = w.heap.size) V).set (a := ⟨w.heap.size, 0, none⟩) rfl _).set (a := ⟨w.heap.size, 1, none⟩) rfl _).set (a := ⟨w.heap.size, 2, none⟩) rfl _).set (a := ⟨w.heap.size, 3, none⟩) rfl _).set (a := ⟨w.heap.size, 4, none⟩) rfl _) (fun k hk => .inr (by omega))
    generalize (((((V.setCell ⟨w.heap.size, 0, none⟩ (.int .u8 c.is)).setCell ⟨w.heap.size, 1, none⟩ (.int .u8 c.kind)).setCell ⟨w.heap.size, 2, none⟩ (.int .u16 c.tag)).setCell ⟨w.heap.size, 3, none⟩ (.int .u32 c.size)).setCell ⟨w.heap.size, 4, none⟩ (.int .i64 c.n)) = Y at hY hcY ⊢
    have y0 : Y.cell? ⟨w.heap.size, 0, none⟩ = some (.int .u8 c.is) := by simp [World.cell?, hY]
    have y1 : Y.cell? ⟨w.heap.size, 1, none⟩ = some (.int .u8 c.kind) := by simp [World.cell?, hY]
    have y2 : Y.cell? ⟨w.heap.size, 2, none⟩ = some (.int .u16 c.tag) := by simp [World.cell?, hY]
    have y3 : Y.cell? ⟨w.heap.size, 3, none⟩ = some (.int .u32 c.size) := by simp [World.cell?, hY]
    have y4 : Y.cell? ⟨w.heap.size, 4, none⟩ = some (.int .i64 c.n) := by simp [World.cell?, hY]
    rw [hc]
    refine bodyPost_ret (v := pcV c) ?_ hd ⟨rfl, hcY⟩
    simp [results, Try.results34, go_sem, h4, y0, y1, y2, y3, y4, pcV]
  cases hl : liesF f u a with
  | false =>
    rw [hl] at HL
    have hz : firstF f u a = zeroC := by simp [firstF, hl]
    have FIN := hid (fun a' => fin zeroC a')
    clear fin hl
    go_enter Try.func34, Try.ntmps34
    go_upto_region 1 with (fail)
    clear hV
    go_wp2_with (go_at_call 31; refine HL.mono ?_; clear HL; rintro e w9 ⟨rfl, hw9⟩; obtain rfl := hw9.symm)
    exact FIN.out _ rfl rfl hz
  | true =>
    rw [hl] at HL
    have hz : firstF f u a = f a.toNat := by simp [firstF, hl]
    obtain ⟨n, rfl⟩ : ∃ n : Nat, a = (n : Int) := ⟨a.toNat, by simp [liesF] at hl; omega⟩
    have hn : n < N := by
      have := H.le
      simp [liesF] at hl
      omega
    have hnN : (n : Int) < (N : Int) := by omega
    obtain ⟨c0, c1, c2, c3, c4⟩ := HV.five hn
    have FIN := hid (fun a' => fin (f n) a')
    have hgl := (Array.getElem?_eq_some_iff.1 H.row).1
    have hne : g ≠ w.heap.size := by omega
    clear fin hl H HV hgl
    go_enter Try.func34, Try.ntmps34
    go_upto_region 1 with (fail)
    clear hV
    go_wp2_with (go_at_call 31; refine HL.mono ?_; clear HL; rintro e w9 ⟨rfl, hw9⟩; obtain rfl := hw9.symm)
    exact FIN.out _ rfl rfl (by simpa using hz)
end Go.Proofs.Ytidgppghakmkaaa
