/-
  Decode, whole.
-/
import Derived.Test.YtpjbfdpblgjmfaaGreatDoorMDl
set_option linter.unusedVariables false
set_option linter.unusedSimpArgs false
namespace Go.Proofs.YtpjbfdpblgjmfaaGreatDoor
open Go.RowKit

theorem head_loop2 {W : World} {s : List UInt8} {b : Nat} {r0 : Cd.Rd} (a0 : Act) (Q0 : Exit → Act → World → Prop) (hsz : a0.tmps.size = 196) (hdf : a0.defers = []) (h6 : a0.tmps[6]? = some (.int .i64 0)) (h0 : a0.tmps.getD 0 undef = .string ⟨s.toArray⟩) (h4 : a0.tmps.getD 4 undef = .pointer (some ⟨b, 0, none⟩)) (h5 : a0.tmps.getD 5 undef = .string ⟨#[69, 70, 49]⟩) (hr : RdM W b s r0)
    (hexit : ∀ a' w', FrK [0, 2, 3, 4, 5] (fun i => a0.tmps.getD i undef) a' → RdM w' b s (Cd.Rd.head s 3 r0) → Ch (fun k => k = b) W w' → Q0 (.exit 0) a' w') : Code.wp Tryz.prog (Code.loop ((Tryz.f15.body.map (fun c => (loopsOf c).getD 0 .skip)).getD .skip)) Q0 a0 W :=
  head_loop (fun i => a0.tmps.getD i undef) Q0 h0 h4 h5 hr a0 (frk_self hsz hdf (by simp)) h6 hexit
theorem ops_loop2 {w0 W : World} {s : List UInt8} {g : Dg} {n : Nat} (a0 : Act) (Q0 : Exit → Act → World → Prop) (hsz : a0.tmps.size = 196) (hdf : a0.defers = []) (h9 : a0.tmps[9]? = some (.int .i64 0)) (h4 : a0.tmps.getD 4 undef = .pointer (some ⟨g.b, 0, none⟩)) (h7 : a0.tmps.getD 7 undef = .pointer (some ⟨g.cb, 0, none⟩)) (h8 : a0.tmps.getD 8 undef = .int .i64 (n : Nat)) (hs : s.length ≤ 4000000) (hn : n ≤ 255) (hm : Dm w0 s g W) (hos : g.os = [])
    (hexit : ∀ a' w' v, FrK [0, 2, 3, 4, 7, 8] (fun i => a0.tmps.getD i undef) a' → Dm w0 s { g with r := (g.r.opsL s n).2, vo := v, os := (g.r.opsL s n).1 } w' → Q0 (.exit 2) a' w') : Code.wp Tryz.prog (Code.loop ((Tryz.f15.body.map (fun c => (loopsOf c).getD 1 .skip)).getD .skip)) Q0 a0 W :=
  loopOps (fun i => a0.tmps.getD i undef) Q0 h4 h7 h8 hs hn hm hos a0 (frk_self hsz hdf (by simp)) h9 hexit
theorem hans_loop2 {w0 W : World} {s : List UInt8} {g : Dg} {n : Nat} (a0 : Act) (Q0 : Exit → Act → World → Prop) (hsz : a0.tmps.size = 196) (hdf : a0.defers = []) (h9 : a0.tmps[13]? = some (.int .i64 0)) (h4 : a0.tmps.getD 4 undef = .pointer (some ⟨g.b, 0, none⟩)) (h7 : a0.tmps.getD 7 undef = .pointer (some ⟨g.cb, 0, none⟩)) (h8 : a0.tmps.getD 8 undef = .int .i64 (n : Nat)) (hQ0 : ∀ c a a' w, a.defers = a'.defers → Q0 (.panic c) a w → Q0 (.panic c) a' w) (hs : s.length ≤ 4000000) (hn : n ≤ 65535) (hm : Dm w0 s g W) (hl0 : g.hs = []) (hY : g.Y = fun _ => False)
    (hexit : ∀ a' w' v l X D, FrK [0, 2, 3, 4, 7, 8] (fun i => a0.tmps.getD i undef) a' → l.map Prod.snd = (g.r.hansL s n).1 → Dm w0 s { g with r := (g.r.hansL s n).2, X := X, D := D, Y := fun _ => False, vh := v, hs := l } w' → Q0 (.exit 4) a' w') : Code.wp Tryz.prog (Code.loop ((Tryz.f15.body.map (fun c => (loopsOf c).getD 2 .skip)).getD .skip)) Q0 a0 W :=
  hans_loop (fun i => a0.tmps.getD i undef) Q0 hQ0 h4 h7 h8 hs hn hm hl0 hY a0 (frk_self hsz hdf (by simp)) h9 hexit
theorem funs_loop2 {w0 W : World} {s : List UInt8} {g : Dg} {n : Nat} (a0 : Act) (Q0 : Exit → Act → World → Prop) (hsz : a0.tmps.size = 196) (hdf : a0.defers = []) (h9 : a0.tmps[17]? = some (.int .i64 0)) (h4 : a0.tmps.getD 4 undef = .pointer (some ⟨g.b, 0, none⟩)) (h7 : a0.tmps.getD 7 undef = .pointer (some ⟨g.cb, 0, none⟩)) (h8 : a0.tmps.getD 8 undef = .int .i64 (n : Nat)) (hQ0 : ∀ c a a' w, a.defers = a'.defers → Q0 (.panic c) a w → Q0 (.panic c) a' w) (hs : s.length ≤ 4000000) (hn : n ≤ 65535) (hm : Dm w0 s g W) (hl0 : g.fs = []) (hY : g.Y = fun _ => False)
    (hexit : ∀ a' w' v l X D, FrK [0, 2, 3, 4, 7, 8] (fun i => a0.tmps.getD i undef) a' → l.map Prod.snd = (g.r.funsL s n).1 → Dm w0 s { g with r := (g.r.funsL s n).2, X := X, D := D, Y := fun _ => False, vf := v, fs := l } w' → Q0 (.exit 8) a' w') : Code.wp Tryz.prog (Code.loop ((Tryz.f15.body.map (fun c => (loopsOf c).getD 3 .skip)).getD .skip)) Q0 a0 W :=
  funs_loop (fun i => a0.tmps.getD i undef) Q0 hQ0 h4 h7 h8 hs hn hm hl0 hY a0 (frk_self hsz hdf (by simp)) h9 hexit
/-- What Decode answers and leaves. -/
def DecPost (w : World) (d : Cd.Code × Nat × Nat) (e : Ending) (w' : World) : Prop := ∃ vo vh vf, e = .returned (.tuple #[.agg #[.string ⟨d.1.shape.toArray⟩, vo, vh, vf], .agg #[.int .i64 (d.2.1 : Nat), .int .i64 (d.2.2 : Nat)]]) ∧ CodeM w' vo vh vf d.1 ∧ Ch (fun _ => False) w w'
set_option maxRecDepth 100000 in
set_option maxHeartbeats 8000000 in
theorem rdecode_long (w : World) (s : List UInt8) (hl : 4000000 < s.length) : Calls Tryz.prog 15 #[.string ⟨s.toArray⟩] w fun e w' => DecPost w (⟨[], [], [], []⟩, 1, 0) e w' := by
  have hsz := size_mk s
  have hl2 : (4000000 : Int) < (s.length : Int) := by omega
  go_enter Tryz.func15, Tryz.ntmps15
  go_wp2
  refine bodyPost_ret (v := .tuple #[.agg #[.string ⟨#[]⟩, .slice none 0 0, .slice none 0 0, .slice none 0 0], .agg #[.int .i64 1, .int .i64 0]]) (by simp [results, Tryz.results15, go_sem]) rfl ?_
  refine ⟨_, _, _, rfl, code_nil _, ?_⟩
  exact (((Ch.refl _ _).al _).al _).al _
/-- Where a fault is answered. -/
structure FaultAt (w0 w : World) (B T2 T3 : Nat) (r : Cd.Rd) : Prop where
  b2 : w.cell? ⟨B, 2, none⟩ = some (.int .i64 (r.fk : Nat))
  b3 : w.cell? ⟨B, 3, none⟩ = some (.int .i64 (r.fa : Nat))
  h2 : w.heap[T2]? = some (.cells #[.string ⟨#[]⟩, .slice none 0 0, .slice none 0 0, .slice none 0 0] 38 (0, 0))
  h3 : w.heap[T3]? = some (.cells #[.int .i64 0, .int .i64 0] 25 (0, 0))
  ch : Ch (fun _ => False) w0 w
theorem FaultAt.zero {w0 w : World} {B T2 T3 : Nat} {r : Cd.Rd} (h : FaultAt w0 w B T2 T3 r) (hb : B ≠ T2) (h32 : T3 ≠ T2) (ho : w0.heap.size ≤ T2) : FaultAt w0 ((((w.setCell ⟨T2, 0, none⟩ (.string ⟨#[]⟩)).setCell ⟨T2, 1, none⟩ (.slice none 0 0)).setCell ⟨T2, 2, none⟩ (.slice none 0 0)).setCell ⟨T2, 3, none⟩ (.slice none 0 0)).drew B T2 T3 r := by
  have hc : Ch (fun k => k = T2) w ((((w.setCell ⟨T2, 0, none⟩ (.string ⟨#[]⟩)).setCell ⟨T2, 1, none⟩ (.slice none 0 0)).setCell ⟨T2, 2, none⟩ (.slice none 0 0)).setCell ⟨T2, 3, none⟩ (.slice none 0 0)).drew := (((((Ch.refl (fun k => k = T2) _).set (a := ⟨T2, 0, none⟩) rfl _).set (a := ⟨T2, 1, none⟩) rfl _).set (a := ⟨T2, 2, none⟩) rfl _).set (a := ⟨T2, 3, none⟩) rfl _).dr
  refine ⟨(hc.cell (p := ⟨B, 2, none⟩) (block_lt_of_cell h.b2) hb).trans h.b2, (hc.cell (p := ⟨B, 3, none⟩) (block_lt_of_cell h.b3) hb).trans h.b3, ?_, (hc.same T3 (Array.getElem?_eq_some_iff.1 h.h3).1 h32).trans h.h3, h.ch.trans hc (fun i e => .inr (by omega))⟩
  show ((((w.setCell ⟨T2, 0, none⟩ (.string ⟨#[]⟩)).setCell ⟨T2, 1, none⟩ (.slice none 0 0)).setCell ⟨T2, 2, none⟩ (.slice none 0 0)).setCell ⟨T2, 3, none⟩ (.slice none 0 0)).heap[T2]? = _
  rw [blk_set (blk_set (blk_set (blk_set h.h2)))]
  rfl
theorem Dm.fault {w0 w : World} {s : List UInt8} {g : Dg} (h : Dm w0 s g w) : FaultAt w0 w g.b g.t2 g.t3 g.r := ⟨h.rd.cells.2.2.1, h.rd.cells.2.2.2.1, h.c2, h.c3, h.own.ch⟩
set_option maxRecDepth 100000 in
set_option maxHeartbeats 16000000 in
theorem rdecode_short (w : World) (s : List UInt8) (hl : s.length ≤ 4000000) {r1 r2 r3 r4 r5 r6 r7 r8 r9 : Cd.Rd} {k n m q : Nat} {t : List UInt8} {os : List Cd.Op} {hs : List Cd.Han} {fs : List Cd.Fun} (e0 : Cd.Rd.head s 3 ⟨3, 0, 0⟩ = r1) (e1 : r1.num s 2 = (k, r2)) (e2 : r2.text s k = (t, r3)) (e3 : r3.num s 1 = (n, r4)) (e4 : r4.opsL s n = (os, r5)) (e5 : r5.num s 2 = (m, r6)) (e6 : r6.hansL s m = (hs, r7)) (e7 : r7.num s 2 = (q, r8)) (e8 : r8.funsL s q = (fs, r9)) {d : Cd.Code × Nat × Nat} (e9 : (if r9.fk = 0 then (if r9.pos < s.length then (⟨[], [], [], []⟩, 13, r9.pos) else (⟨t, os, hs, fs⟩, 0, 0)) else (⟨[], [], [], []⟩, r9.fk, r9.fa)) = d) :
    Calls Tryz.prog 15 #[.string ⟨s.toArray⟩] w fun e w' => DecPost w d e w' := by
  have hmx : Tryz.prog.follows .mixedOrders = true := by kernel_rfl
  have hsz := size_mk s
  have hl2 : ¬ ((4000000 : Int) < (s.length : Int)) := by omega
  have hk : k < 65536 := by have := Cd.num_two_lt s r1; rw [e1] at this; exact this
  have hn : n < 256 := by have := Cd.num_one_lt s r3; rw [e3] at this; exact this
  have hm0 : m < 65536 := by have := Cd.num_two_lt s r5; rw [e5] at this; exact this
  have hq : q < 65536 := by have := Cd.num_two_lt s r7; rw [e7] at this; exact this
  have hp1 : r1.pos ≤ 4000003 := by rw [← e0, head_pos]; simp
  replace e0 := hid e0
  replace e1 := hid e1
  replace e2 := hid e2
  replace e3 := hid e3
  replace e4 := hid e4
  replace e5 := hid e5
  replace e6 := hid e6
  replace e7 := hid e7
  replace e8 := hid e8
  replace e9 := hid e9
  go_enter Tryz.func15, Tryz.ntmps15
  go_wp2
  obtain ⟨W, hW⟩ : ∃ W, (((w.alloc (.cells #[.string ⟨#[]⟩, .slice none 0 0, .slice none 0 0, .slice none 0 0] 38)).alloc (.cells #[.int .i64 0, .int .i64 0] 25)).alloc (.cells #[.string ⟨s.toArray⟩, .int .i64 3, .int .i64 0, .int .i64 0] 115)) = W := ⟨_, rfl⟩
  have hch : Ch (fun _ => False) w W := by rw [← hW]; exact (((Ch.refl _ _).al _).al _).al _
  have z2 : W.heap[w.heap.size]? = some (.cells #[.string ⟨#[]⟩, .slice none 0 0, .slice none 0 0, .slice none 0 0] 38 (0, 0)) := by rw [← hW]; exact blk_alloc (blk_alloc (World.alloc_heap_new w _))
  have z3 : W.heap[w.heap.size + 1]? = some (.cells #[.int .i64 0, .int .i64 0] 25 (0, 0)) := by
    rw [← hW]
    have := World.alloc_heap_new (w.alloc (.cells #[.string ⟨#[]⟩, .slice none 0 0, .slice none 0 0, .slice none 0 0] 38)) (.cells #[.int .i64 0, .int .i64 0] 25)
    rw [World.size_alloc] at this
    exact blk_alloc this
  have zb : RdM W (w.heap.size + 2) s ⟨3, 0, 0⟩ := by
    rw [← hW]
    have := World.alloc_heap_new ((w.alloc (.cells #[.string ⟨#[]⟩, .slice none 0 0, .slice none 0 0, .slice none 0 0] 38)).alloc (.cells #[.int .i64 0, .int .i64 0] 25)) (.cells #[.string ⟨s.toArray⟩, .int .i64 3, .int .i64 0, .int .i64 0] 115)
    rw [World.size_alloc, World.size_alloc] at this
    exact this
  rw [hW]
  clear hW
  refine head_loop2 (W := W) (s := s) (b := w.heap.size + 2) _ _ rfl rfl rfl rfl rfl rfl zb ?_
  intro a1 w1 hf1 hr1 hc1
  rw [e0.out] at hr1
  obtain ⟨G, rfl, hG⟩ := act_open hf1.sz hf1.df
  have g0 : G 0 = .string ⟨s.toArray⟩ := hG 0 _ (hf1.k 0 (by simp))
  have g2 : G 2 = .pointer (some ⟨w.heap.size, 0, none⟩) := hG 2 _ (hf1.k 2 (by simp))
  have g3 : G 3 = .pointer (some ⟨w.heap.size + 1, 0, none⟩) := hG 3 _ (hf1.k 3 (by simp))
  have g4 : G 4 = .pointer (some ⟨w.heap.size + 2, 0, none⟩) := hG 4 _ (hf1.k 4 (by simp))
  have g5 : G 5 = .string ⟨#[69, 70, 49]⟩ := hG 5 _ (hf1.k 5 (by simp))
  rw [g0, g2, g3, g4, g5]
  clear hG hf1 g0 g2 g3 g4 g5
  have y2 : w1.heap[w.heap.size]? = some (.cells #[.string ⟨#[]⟩, .slice none 0 0, .slice none 0 0, .slice none 0 0] 38 (0, 0)) := (hc1.same _ (Array.getElem?_eq_some_iff.1 z2).1 (by omega)).trans z2
  have y3 : w1.heap[w.heap.size + 1]? = some (.cells #[.int .i64 0, .int .i64 0] 25 (0, 0)) := (hc1.same _ (Array.getElem?_eq_some_iff.1 z3).1 (by omega)).trans z3
  have hch1 : Ch (fun _ => False) w w1 := hch.trans hc1 (fun i e => .inr (by omega))
  have hbl := hr1.lt
  go_upto_region 13 with (fail)
  have hm := dm_start (s := s) (cb := w1.heap.size) (hch1.al (.cells #[.string ⟨#[]⟩, .slice none 0 0, .slice none 0 0, .slice none 0 0] 38)) (Nat.le_refl _) (by omega : w.heap.size < w.heap.size + 1) (by omega : w.heap.size + 1 < w.heap.size + 2) hbl (hr1.alloc _) hp1 (World.alloc_heap_new w1 _) (blk_alloc y2) (blk_alloc y3)
  clear z2 z3 zb hch hr1 hc1 y2 y3 hch1 hbl
  obtain ⟨W1, hW1⟩ : ∃ W1, w1.alloc (.cells #[.string ⟨#[]⟩, .slice none 0 0, .slice none 0 0, .slice none 0 0] 38) = W1 := ⟨_, rfl⟩
  obtain ⟨CB, hCB⟩ : ∃ CB, w1.heap.size = CB := ⟨_, rfl⟩
  rw [hW1, hCB] at hm ⊢
  clear hW1 hCB
  obtain ⟨T2, hT2⟩ : ∃ T2, w.heap.size = T2 := ⟨_, rfl⟩
  obtain ⟨T3, hT3⟩ : ∃ T3, T2 + 1 = T3 := ⟨_, rfl⟩
  obtain ⟨B, hB⟩ : ∃ B, T2 + 2 = B := ⟨_, rfl⟩
  rw [hT2, hT3, hB] at hm ⊢
  clear hT2 hT3 hB
  have hn1 := hm.num hl 2 (by omega)
  unfold ptrV dg0 at hn1
  dsimp only at hn1
  rw [sgn_two, e1.out] at hn1
  go_upto_region 14 with (first
    | (go_at_call 33; refine hn1.mono ?_; clear hn1; rintro e w2 ⟨rfl, hm2, _⟩; have htx := hm2.text hl k (by omega); unfold ptrV at htx; dsimp only at htx; rw [e2.out] at htx; dsimp only)
    | (go_at_call 32; refine htx.mono ?_; clear htx; rintro e w3 ⟨rfl, hm3, _⟩; have hc3 := hm3.c; dsimp only at hc3; have cc : w3.cell? ⟨CB, 0, none⟩ = some (.string ⟨([] : List UInt8).toArray⟩) := (by simp [World.cell?, hc3]); have cf : w3.frozen? ⟨CB, 0, none⟩ = false := (by simp [World.frozen?, hc3]); clear hc3; dsimp only))
  have hm4 := hm3.shape t
  dsimp only at hm4
  obtain ⟨W4, hW4⟩ : ∃ W4, w3.setCell ⟨CB, 0, none⟩ (.string ⟨t.toArray⟩) = W4 := ⟨_, rfl⟩
  rw [hW4] at hm4 ⊢
  clear hW4 cc cf hm hm2 hm3
  have hn2 := hm4.num hl 1 (by omega)
  unfold ptrV at hn2
  dsimp only at hn2
  rw [sgn_one, e3.out] at hn2
  go_wp2_with (go_at_call 33; refine hn2.mono ?_; clear hn2; rintro e w5 ⟨rfl, hm5, _⟩; dsimp only)
  clear hm4
  refine ops_loop2 (W := w5) (n := n) _ _ rfl rfl rfl rfl rfl rfl hl (by omega) hm5 rfl ?_
  intro a6 w6 vo hf6 hm6
  dsimp only at hm6
  rw [e4.out] at hm6
  obtain ⟨G, rfl, hG⟩ := act_open hf6.sz hf6.df
  have g0 : G 0 = .string ⟨s.toArray⟩ := hG 0 _ (hf6.k 0 (by simp))
  have g2 : G 2 = .pointer (some ⟨T2, 0, none⟩) := hG 2 _ (hf6.k 2 (by simp))
  have g3 : G 3 = .pointer (some ⟨T3, 0, none⟩) := hG 3 _ (hf6.k 3 (by simp))
  have g4 : G 4 = .pointer (some ⟨B, 0, none⟩) := hG 4 _ (hf6.k 4 (by simp))
  have g7 : G 7 = .pointer (some ⟨CB, 0, none⟩) := hG 7 _ (hf6.k 7 (by simp))
  have g8 : G 8 = .int .i64 (n : Nat) := hG 8 _ (hf6.k 8 (by simp))
  rw [g0, g2, g3, g4, g7, g8]
  clear hG hf6 g0 g2 g3 g4 g7 g8
  have hn3 := hm6.num hl 2 (by omega)
  unfold ptrV at hn3
  dsimp only at hn3
  rw [sgn_two, e5.out] at hn3
  go_wp2_with (go_at_call 33; refine hn3.mono ?_; clear hn3; rintro e w7 ⟨rfl, hm7, _⟩; dsimp only)
  clear hm5 hm6
  refine hans_loop2 (W := w7) (n := m) _ _ rfl rfl rfl rfl rfl rfl (fun c a a' w hd h => ⟨hd.symm.trans h.1, h.2⟩) hl (by omega) hm7 rfl rfl ?_
  intro a8 w8 vh lh X8 D8 hf8 hlh hm8
  dsimp only at hm8 hlh
  rw [e6.out] at hm8 hlh
  obtain ⟨G, rfl, hG⟩ := act_open hf8.sz hf8.df
  have g0 : G 0 = .string ⟨s.toArray⟩ := hG 0 _ (hf8.k 0 (by simp))
  have g2 : G 2 = .pointer (some ⟨T2, 0, none⟩) := hG 2 _ (hf8.k 2 (by simp))
  have g3 : G 3 = .pointer (some ⟨T3, 0, none⟩) := hG 3 _ (hf8.k 3 (by simp))
  have g4 : G 4 = .pointer (some ⟨B, 0, none⟩) := hG 4 _ (hf8.k 4 (by simp))
  have g7 : G 7 = .pointer (some ⟨CB, 0, none⟩) := hG 7 _ (hf8.k 7 (by simp))
  have g8 : G 8 = .int .i64 (m : Nat) := hG 8 _ (hf8.k 8 (by simp))
  rw [g0, g2, g3, g4, g7, g8]
  clear hG hf8 g0 g2 g3 g4 g7 g8
  have hn4 := hm8.num hl 2 (by omega)
  unfold ptrV at hn4
  dsimp only at hn4
  rw [sgn_two, e7.out] at hn4
  go_wp2_with (go_at_call 33; refine hn4.mono ?_; clear hn4; rintro e w9 ⟨rfl, hm9, _⟩; dsimp only)
  clear hm7 hm8
  refine funs_loop2 (W := w9) (n := q) _ _ rfl rfl rfl rfl rfl rfl (fun c a a' w hd h => ⟨hd.symm.trans h.1, h.2⟩) hl (by omega) hm9 rfl rfl ?_
  intro a10 w10 vf lf X10 D10 hf10 hlf hm10
  dsimp only at hm10 hlf
  rw [e8.out] at hm10 hlf
  obtain ⟨G, rfl, hG⟩ := act_open hf10.sz hf10.df
  have g0 : G 0 = .string ⟨s.toArray⟩ := hG 0 _ (hf10.k 0 (by simp))
  have g2 : G 2 = .pointer (some ⟨T2, 0, none⟩) := hG 2 _ (hf10.k 2 (by simp))
  have g3 : G 3 = .pointer (some ⟨T3, 0, none⟩) := hG 3 _ (hf10.k 3 (by simp))
  have g4 : G 4 = .pointer (some ⟨B, 0, none⟩) := hG 4 _ (hf10.k 4 (by simp))
  have g7 : G 7 = .pointer (some ⟨CB, 0, none⟩) := hG 7 _ (hf10.k 7 (by simp))
  have g8 : G 8 = .int .i64 (q : Nat) := hG 8 _ (hf10.k 8 (by simp))
  rw [g0, g2, g3, g4, g7, g8]
  clear hG hf10 g0 g2 g3 g4 g7 g8
  clear hm9
  have hok1 := hm10.ok
  unfold ptrV at hok1
  dsimp only at hok1
  have hrd := hm10.rd.cells
  dsimp only at hrd
  obtain ⟨q0, q1, q2, q3, qf⟩ := hrd
  have hd2 := hm10.c2
  have hd3' := hm10.c3
  have hdc := hm10.c
  dsimp only at hd2 hd3' hdc
  have hne2 : T2 ≠ B := fun e => by have := hm10.own.dj 8 0 T2 rfl e; omega
  have hne3 : T3 ≠ B := fun e => by have := hm10.own.dj 9 0 T3 rfl e; omega
  have hne2' : B ≠ T2 := fun e => hne2 e.symm
  have hne3' : B ≠ T3 := fun e => hne3 e.symm
  have hne4 : T2 ≠ T3 := fun e => by have := hm10.own.dj 8 9 T2 rfl e; omega
  have hne4' : T3 ≠ T2 := fun e => hne4 e.symm
  have hne5 : CB ≠ T2 := fun e => by have := hm10.own.dj 1 8 CB rfl e; omega
  have hne6 : CB ≠ T3 := fun e => by have := hm10.own.dj 1 9 CB rfl e; omega
  have ho2 : w.heap.size ≤ T2 := hm10.own.old 8 T2 rfl
  have ho3 : w.heap.size ≤ T3 := hm10.own.old 9 T3 rfl
  have hfault : ∀ (wF : World) (rF : Cd.Rd) (g : Dg), g.b = B → g.t2 = T2 → g.t3 = T3 → g.r = rF → Dm w s g wF → FaultAt w wF B T2 T3 rF := fun wF rF g a1 a2 a3 a4 hd => by subst a1 a2 a3 a4; exact hd.fault
  by_cases hfk : r9.fk = 0
  · rw [show decide (r9.fk = 0) = true by simp [hfk]] at hok1
    have e9a := e9.out
    rw [if_pos hfk] at e9a
    by_cases hpos : r9.pos < s.length
    · rw [if_pos hpos] at e9a
      replace e9a := hid e9a
      have hpi : (r9.pos : Int) < (s.length : Int) := by omega
      have hno := hm10.no 13 r9.pos
      unfold ptrV at hno
      dsimp only at hno
      rw [show r9.no 13 r9.pos = ⟨r9.pos, 13, r9.pos⟩ by simp [Cd.Rd.no, hfk]] at hno
      clear hpos
      go_upto_region 52 with (first
        | (go_at_call 34; refine hok1.mono ?_; clear hok1; rintro e w10 ⟨rfl, rfl⟩; dsimp only)
        | (go_at_call 31; refine hno.mono ?_; clear hno; rintro e w11 ⟨rfl, hm11, _⟩; have hok2 := hm11.ok; unfold ptrV at hok2; dsimp only at hok2; rw [show decide ((13 : Nat) = 0) = false from rfl] at hok2; have hF := hfault w11 ⟨r9.pos, 13, r9.pos⟩ _ rfl rfl rfl rfl hm11; dsimp only)
        | (go_at_call 34; refine hok2.mono ?_; clear hok2; rintro e w11 ⟨rfl, rfl⟩; dsimp only))
      clear hfault hm10 hm11
      have x2 := hF.b2
      have x3 := hF.b3
      have xh2 := hF.h2
      have xh3 := hF.h3
      try dsimp only at x2 x3
      have m0 : w11.cell? ⟨T2, 0, none⟩ = some (.string ⟨#[]⟩) := by simp [World.cell?, xh2]
      have m1 : w11.cell? ⟨T2, 1, none⟩ = some (.slice none 0 0) := by simp [World.cell?, xh2]
      have m2 : w11.cell? ⟨T2, 2, none⟩ = some (.slice none 0 0) := by simp [World.cell?, xh2]
      have m3 : w11.cell? ⟨T2, 3, none⟩ = some (.slice none 0 0) := by simp [World.cell?, xh2]
      have mfz : ∀ i, w11.frozen? ⟨T2, i, none⟩ = false := fun i => by simp [World.frozen?, xh2]
      have l0 : w11.cell? ⟨T3, 0, none⟩ = some (.int .i64 0) := by simp [World.cell?, xh3]
      have l1 : w11.cell? ⟨T3, 1, none⟩ = some (.int .i64 0) := by simp [World.cell?, xh3]
      have lfz : ∀ i, w11.frozen? ⟨T3, i, none⟩ = false := fun i => by simp [World.frozen?, xh3]
      refine wp_region_held_drew (S := (fun _ => True)) (by kernel_rfl) (by first | trivial | ((try dsimp only); go_keep)) (fun hHeld => ?_)
      refine wpAnyH_take (i := 0) (v := ?vvr5005) rfl (by kernel_rfl) (by kernel_rfl) (by kernel_rfl) (fun _ _ _ h => h) (Or.inl ⟨by rfl, ?yyr5005⟩) (by assumption) ?rrr5005
      case yyr5005 => (intro w' hSw; (try dsimp only at hSw); go_simp; (try with_reducible rfl))
      try simp only [Act.put, List.setIfInBounds_toArray, List.set_cons_zero, List.set_cons_succ]
      refine wpAnyH_take (i := 1) (v := ?vvr5006) rfl (by kernel_rfl) (by kernel_rfl) (by kernel_rfl) (fun _ _ _ h => h) (Or.inl ⟨by rfl, ?yyr5006⟩) (by assumption) ?rrr5006
      case yyr5006 => (intro w' hSw; (try dsimp only at hSw); go_simp; (try with_reducible rfl))
      try simp only [Act.put, List.setIfInBounds_toArray, List.set_cons_zero, List.set_cons_succ]
      refine wpAnyH_take (i := 2) (v := ?vvr5007) rfl (by kernel_rfl) (by kernel_rfl) (by kernel_rfl) (fun _ _ _ h => h) (Or.inl ⟨by rfl, ?yyr5007⟩) (by assumption) ?rrr5007
      case yyr5007 => (intro w' hSw; (try dsimp only at hSw); go_simp; (try with_reducible rfl))
      try simp only [Act.put, List.setIfInBounds_toArray, List.set_cons_zero, List.set_cons_succ]
      refine wpAnyH_take (i := 3) (v := ?vvr5008) rfl (by kernel_rfl) (by kernel_rfl) (by kernel_rfl) (fun _ _ _ h => h) (Or.inl ⟨by rfl, ?yyr5008⟩) (by assumption) ?rrr5008
      case yyr5008 => (intro w' hSw; (try dsimp only at hSw); go_simp; (try with_reducible rfl))
      try simp only [Act.put, List.setIfInBounds_toArray, List.set_cons_zero, List.set_cons_succ]
      refine wpAnyH_ready (rs := [4, 5]) (by kernel_rfl) (by simp) (AllReadyH.cons rfl (fun K hK => ?_) (AllReadyH.cons rfl (fun K hK => ?_) AllReadyH.nil))
      · go_simp
        clear hHeld
        refine hK.out _ _ ?hs (fun hHeld => ?_)
        case hs => (first | trivial | ((try dsimp only); go_keep) | ((try dsimp only); simp [*, World.cell?_alloc_some, World.cell?_setCell_far, World.cell?_setCell_other]))
        clear hK K
        try simp only [Act.put, List.setIfInBounds_toArray, List.set_cons_zero, List.set_cons_succ]
        refine wpAnyH_ready (rs := [5]) (by kernel_rfl) (by simp) (AllReadyH.cons rfl (fun K hK => ?_) AllReadyH.nil)
        go_simp
        clear hHeld
        refine hK.out _ _ ?hs (fun hHeld => ?_)
        case hs => (first | trivial | ((try dsimp only); go_keep) | ((try dsimp only); simp [*, World.cell?_alloc_some, World.cell?_setCell_far, World.cell?_setCell_other]))
        clear hK K
        try simp only [Act.put, List.setIfInBounds_toArray, List.set_cons_zero, List.set_cons_succ]
        obtain ⟨W5, hW5⟩ : ∃ W5, (((((w11.setCell ⟨T2, 0, none⟩ (.string ⟨#[]⟩)).setCell ⟨T2, 1, none⟩ (.slice none 0 0)).setCell ⟨T2, 2, none⟩ (.slice none 0 0)).setCell ⟨T2, 3, none⟩ (.slice none 0 0)).drew) = W5 := ⟨_, rfl⟩
        have gF := hF.zero hne2' hne4' ho2
        rw [hW5] at gF
        rw [hW5]
        clear hW5
        clear x2 x3 xh2 xh3 m0 m1 m2 m3 mfz l0 l1 lfz
        have x2 := gF.b2
        have x3 := gF.b3
        have xh2 := gF.h2
        have xh3 := gF.h3
        try dsimp only at x2 x3
        have m0 : W5.cell? ⟨T2, 0, none⟩ = some (.string ⟨#[]⟩) := by simp [World.cell?, xh2]
        have m1 : W5.cell? ⟨T2, 1, none⟩ = some (.slice none 0 0) := by simp [World.cell?, xh2]
        have m2 : W5.cell? ⟨T2, 2, none⟩ = some (.slice none 0 0) := by simp [World.cell?, xh2]
        have m3 : W5.cell? ⟨T2, 3, none⟩ = some (.slice none 0 0) := by simp [World.cell?, xh2]
        have mfz : ∀ i, W5.frozen? ⟨T2, i, none⟩ = false := fun i => by simp [World.frozen?, xh2]
        have l0 : W5.cell? ⟨T3, 0, none⟩ = some (.int .i64 0) := by simp [World.cell?, xh3]
        have l1 : W5.cell? ⟨T3, 1, none⟩ = some (.int .i64 0) := by simp [World.cell?, xh3]
        have lfz : ∀ i, W5.frozen? ⟨T3, i, none⟩ = false := fun i => by simp [World.frozen?, xh3]
        refine wpAnyH_ready (rs := [6]) (by kernel_rfl) (by simp) (AllReadyH.cons rfl (fun K hK => ?_) AllReadyH.nil)
        go_simp
        clear hHeld
        refine hK.out _ _ ?hs (fun hHeld => ?_)
        case hs => (first | trivial | ((try dsimp only); go_keep) | ((try dsimp only); simp [*, World.cell?_alloc_some, World.cell?_setCell_far, World.cell?_setCell_other]))
        clear hK K
        try simp only [Act.put, List.setIfInBounds_toArray, List.set_cons_zero, List.set_cons_succ]
        refine wpAnyH_done (by kernel_rfl) ?_ _
        clear hHeld
        go_wp2
        refine bodyPost_ret (v := .tuple #[.agg #[.string ⟨#[]⟩, .slice none 0 0, .slice none 0 0, .slice none 0 0], .agg #[.int .i64 13, .int .i64 (r9.pos : Nat)]]) (by simp [results, Tryz.results15, go_sem, m0, m1, m2, m3, l0, l1, hne4, hne4']) rfl ?_
        rw [← e9a.out]
        exact ⟨_, _, _, rfl, code_nil _, gF.ch.trans (O1 := fun k => k = T3) (by first | exact ((Ch.refl (fun k => k = T3) _).set (a := ⟨T3, 0, none⟩) rfl _).set (a := ⟨T3, 1, none⟩) rfl _ | exact (((Ch.refl (fun k => k = T3) _).set (a := ⟨T3, 0, none⟩) rfl _).set (a := ⟨T3, 1, none⟩) rfl _).dr) (fun i e => .inr (by omega))⟩
      · go_simp
        clear hHeld
        refine hK.out _ _ ?hs (fun hHeld => ?_)
        case hs => (first | trivial | ((try dsimp only); go_keep) | ((try dsimp only); simp [*, World.cell?_alloc_some, World.cell?_setCell_far, World.cell?_setCell_other]))
        clear hK K
        try simp only [Act.put, List.setIfInBounds_toArray, List.set_cons_zero, List.set_cons_succ]
        obtain ⟨W5, hW5⟩ : ∃ W5, (((((w11.setCell ⟨T2, 0, none⟩ (.string ⟨#[]⟩)).setCell ⟨T2, 1, none⟩ (.slice none 0 0)).setCell ⟨T2, 2, none⟩ (.slice none 0 0)).setCell ⟨T2, 3, none⟩ (.slice none 0 0)).drew) = W5 := ⟨_, rfl⟩
        have gF := hF.zero hne2' hne4' ho2
        rw [hW5] at gF
        rw [hW5]
        clear hW5
        clear x2 x3 xh2 xh3 m0 m1 m2 m3 mfz l0 l1 lfz
        have x2 := gF.b2
        have x3 := gF.b3
        have xh2 := gF.h2
        have xh3 := gF.h3
        try dsimp only at x2 x3
        have m0 : W5.cell? ⟨T2, 0, none⟩ = some (.string ⟨#[]⟩) := by simp [World.cell?, xh2]
        have m1 : W5.cell? ⟨T2, 1, none⟩ = some (.slice none 0 0) := by simp [World.cell?, xh2]
        have m2 : W5.cell? ⟨T2, 2, none⟩ = some (.slice none 0 0) := by simp [World.cell?, xh2]
        have m3 : W5.cell? ⟨T2, 3, none⟩ = some (.slice none 0 0) := by simp [World.cell?, xh2]
        have mfz : ∀ i, W5.frozen? ⟨T2, i, none⟩ = false := fun i => by simp [World.frozen?, xh2]
        have l0 : W5.cell? ⟨T3, 0, none⟩ = some (.int .i64 0) := by simp [World.cell?, xh3]
        have l1 : W5.cell? ⟨T3, 1, none⟩ = some (.int .i64 0) := by simp [World.cell?, xh3]
        have lfz : ∀ i, W5.frozen? ⟨T3, i, none⟩ = false := fun i => by simp [World.frozen?, xh3]
        refine wpAnyH_ready (rs := [4]) (by kernel_rfl) (by simp) (AllReadyH.cons rfl (fun K hK => ?_) AllReadyH.nil)
        go_simp
        clear hHeld
        refine hK.out _ _ ?hs (fun hHeld => ?_)
        case hs => (first | trivial | ((try dsimp only); go_keep) | ((try dsimp only); simp [*, World.cell?_alloc_some, World.cell?_setCell_far, World.cell?_setCell_other]))
        clear hK K
        try simp only [Act.put, List.setIfInBounds_toArray, List.set_cons_zero, List.set_cons_succ]
        refine wpAnyH_ready (rs := [6]) (by kernel_rfl) (by simp) (AllReadyH.cons rfl (fun K hK => ?_) AllReadyH.nil)
        go_simp
        clear hHeld
        refine hK.out _ _ ?hs (fun hHeld => ?_)
        case hs => (first | trivial | ((try dsimp only); go_keep) | ((try dsimp only); simp [*, World.cell?_alloc_some, World.cell?_setCell_far, World.cell?_setCell_other]))
        clear hK K
        try simp only [Act.put, List.setIfInBounds_toArray, List.set_cons_zero, List.set_cons_succ]
        refine wpAnyH_done (by kernel_rfl) ?_ _
        clear hHeld
        go_wp2
        refine bodyPost_ret (v := .tuple #[.agg #[.string ⟨#[]⟩, .slice none 0 0, .slice none 0 0, .slice none 0 0], .agg #[.int .i64 13, .int .i64 (r9.pos : Nat)]]) (by simp [results, Tryz.results15, go_sem, m0, m1, m2, m3, l0, l1, hne4, hne4']) rfl ?_
        rw [← e9a.out]
        exact ⟨_, _, _, rfl, code_nil _, gF.ch.trans (O1 := fun k => k = T3) (by first | exact ((Ch.refl (fun k => k = T3) _).set (a := ⟨T3, 0, none⟩) rfl _).set (a := ⟨T3, 1, none⟩) rfl _ | exact (((Ch.refl (fun k => k = T3) _).set (a := ⟨T3, 0, none⟩) rfl _).set (a := ⟨T3, 1, none⟩) rfl _).dr) (fun i e => .inr (by omega))⟩
    · rw [if_neg hpos] at e9a
      replace e9a := hid e9a
      have hpi : ¬ ((r9.pos : Int) < (s.length : Int)) := by omega
      have hF := hfault w10 r9 _ rfl rfl rfl rfl hm10
      clear hpos hfault
      have x2 := hF.b2
      have x3 := hF.b3
      have xh2 := hF.h2
      have xh3 := hF.h3
      try dsimp only at x2 x3
      have m0 : w10.cell? ⟨T2, 0, none⟩ = some (.string ⟨#[]⟩) := by simp [World.cell?, xh2]
      have m1 : w10.cell? ⟨T2, 1, none⟩ = some (.slice none 0 0) := by simp [World.cell?, xh2]
      have m2 : w10.cell? ⟨T2, 2, none⟩ = some (.slice none 0 0) := by simp [World.cell?, xh2]
      have m3 : w10.cell? ⟨T2, 3, none⟩ = some (.slice none 0 0) := by simp [World.cell?, xh2]
      have mfz : ∀ i, w10.frozen? ⟨T2, i, none⟩ = false := fun i => by simp [World.frozen?, xh2]
      have l0 : w10.cell? ⟨T3, 0, none⟩ = some (.int .i64 0) := by simp [World.cell?, xh3]
      have l1 : w10.cell? ⟨T3, 1, none⟩ = some (.int .i64 0) := by simp [World.cell?, xh3]
      have lfz : ∀ i, w10.frozen? ⟨T3, i, none⟩ = false := fun i => by simp [World.frozen?, xh3]
      have k0 : w10.cell? ⟨CB, 0, none⟩ = some (.string ⟨t.toArray⟩) := by simp [World.cell?, hdc]
      have k1 : w10.cell? ⟨CB, 1, none⟩ = some vo := by simp [World.cell?, hdc]
      have k2 : w10.cell? ⟨CB, 2, none⟩ = some vh := by simp [World.cell?, hdc]
      have k3 : w10.cell? ⟨CB, 3, none⟩ = some vf := by simp [World.cell?, hdc]
      obtain ⟨oa, oc, hvo, _⟩ := row_slice hm10.ro
      obtain ⟨ha, hc, hvh, _⟩ := row_slice hm10.rh
      obtain ⟨fa, fc, hvf, _⟩ := row_slice hm10.rf
      dsimp only at hvo hvh hvf
      subst hvo hvh hvf
      replace hm10 := hid hm10
      clear hF xh2 xh3
      go_wp2_with (go_at_call 34; refine hok1.mono ?_; rintro e w10 ⟨rfl, rfl⟩; dsimp only)
      refine bodyPost_ret (v := .tuple #[.agg #[.string ⟨t.toArray⟩, .slice oa os.length oc, .slice ha lh.length hc, .slice fa lf.length fc], .agg #[.int .i64 0, .int .i64 0]]) (by simp [results, Tryz.results15, go_sem, m0, m1, m2, m3, l0, l1, hne4, hne4']) rfl ?_
      rw [← e9a.out]
      have hcF : Ch (fun k => k = T2 ∨ k = T3) w10 ((((((w10.setCell ⟨T2, 0, none⟩ (.string ⟨t.toArray⟩)).setCell ⟨T2, 1, none⟩ (.slice oa os.length oc)).setCell ⟨T2, 2, none⟩ (.slice ha lh.length hc)).setCell ⟨T2, 3, none⟩ (.slice fa lf.length fc)).setCell ⟨T3, 0, none⟩ (.int .i64 0)).setCell ⟨T3, 1, none⟩ (.int .i64 0)) :=
        ((((((Ch.refl (fun k => k = T2 ∨ k = T3) _).set (a := ⟨T2, 0, none⟩) (.inl rfl) _).set (a := ⟨T2, 1, none⟩) (.inl rfl) _).set (a := ⟨T2, 2, none⟩) (.inl rfl) _).set (a := ⟨T2, 3, none⟩) (.inl rfl) _).set (a := ⟨T3, 0, none⟩) (.inr rfl) _).set (a := ⟨T3, 1, none⟩) (.inr rfl) _
      have hC := hm10.out.code hcF
      dsimp only at hC
      rw [hlh, hlf] at hC
      exact ⟨_, _, _, rfl, hC, hm10.out.own.ch.trans hcF (fun i e => .inr (by omega))⟩
  · rw [show decide (r9.fk = 0) = false by simp [hfk]] at hok1
    have e9a := e9.out
    rw [if_neg hfk] at e9a
    replace e9a := hid e9a
    have hF := hfault w10 r9 _ rfl rfl rfl rfl hm10
    clear hfault hm10
    go_upto_region 52 with (go_at_call 34; refine hok1.mono ?_; rintro e w10 ⟨rfl, rfl⟩; dsimp only)
    have x2 := hF.b2
    have x3 := hF.b3
    have xh2 := hF.h2
    have xh3 := hF.h3
    try dsimp only at x2 x3
    have m0 : w10.cell? ⟨T2, 0, none⟩ = some (.string ⟨#[]⟩) := by simp [World.cell?, xh2]
    have m1 : w10.cell? ⟨T2, 1, none⟩ = some (.slice none 0 0) := by simp [World.cell?, xh2]
    have m2 : w10.cell? ⟨T2, 2, none⟩ = some (.slice none 0 0) := by simp [World.cell?, xh2]
    have m3 : w10.cell? ⟨T2, 3, none⟩ = some (.slice none 0 0) := by simp [World.cell?, xh2]
    have mfz : ∀ i, w10.frozen? ⟨T2, i, none⟩ = false := fun i => by simp [World.frozen?, xh2]
    have l0 : w10.cell? ⟨T3, 0, none⟩ = some (.int .i64 0) := by simp [World.cell?, xh3]
    have l1 : w10.cell? ⟨T3, 1, none⟩ = some (.int .i64 0) := by simp [World.cell?, xh3]
    have lfz : ∀ i, w10.frozen? ⟨T3, i, none⟩ = false := fun i => by simp [World.frozen?, xh3]
    refine wp_region_held_drew (S := (fun _ => True)) (by kernel_rfl) (by first | trivial | ((try dsimp only); go_keep)) (fun hHeld => ?_)
    refine wpAnyH_take (i := 0) (v := ?vvq5001) rfl (by kernel_rfl) (by kernel_rfl) (by kernel_rfl) (fun _ _ _ h => h) (Or.inl ⟨by rfl, ?yyq5001⟩) (by assumption) ?rrq5001
    case yyq5001 => (intro w' hSw; (try dsimp only at hSw); go_simp; (try with_reducible rfl))
    try simp only [Act.put, List.setIfInBounds_toArray, List.set_cons_zero, List.set_cons_succ]
    refine wpAnyH_take (i := 1) (v := ?vvq5002) rfl (by kernel_rfl) (by kernel_rfl) (by kernel_rfl) (fun _ _ _ h => h) (Or.inl ⟨by rfl, ?yyq5002⟩) (by assumption) ?rrq5002
    case yyq5002 => (intro w' hSw; (try dsimp only at hSw); go_simp; (try with_reducible rfl))
    try simp only [Act.put, List.setIfInBounds_toArray, List.set_cons_zero, List.set_cons_succ]
    refine wpAnyH_take (i := 2) (v := ?vvq5003) rfl (by kernel_rfl) (by kernel_rfl) (by kernel_rfl) (fun _ _ _ h => h) (Or.inl ⟨by rfl, ?yyq5003⟩) (by assumption) ?rrq5003
    case yyq5003 => (intro w' hSw; (try dsimp only at hSw); go_simp; (try with_reducible rfl))
    try simp only [Act.put, List.setIfInBounds_toArray, List.set_cons_zero, List.set_cons_succ]
    refine wpAnyH_take (i := 3) (v := ?vvq5004) rfl (by kernel_rfl) (by kernel_rfl) (by kernel_rfl) (fun _ _ _ h => h) (Or.inl ⟨by rfl, ?yyq5004⟩) (by assumption) ?rrq5004
    case yyq5004 => (intro w' hSw; (try dsimp only at hSw); go_simp; (try with_reducible rfl))
    try simp only [Act.put, List.setIfInBounds_toArray, List.set_cons_zero, List.set_cons_succ]
    refine wpAnyH_ready (rs := [4, 5]) (by kernel_rfl) (by simp) (AllReadyH.cons rfl (fun K hK => ?_) (AllReadyH.cons rfl (fun K hK => ?_) AllReadyH.nil))
    · go_simp
      clear hHeld
      refine hK.out _ _ ?hs (fun hHeld => ?_)
      case hs => (first | trivial | ((try dsimp only); go_keep) | ((try dsimp only); simp [*, World.cell?_alloc_some, World.cell?_setCell_far, World.cell?_setCell_other]))
      clear hK K
      try simp only [Act.put, List.setIfInBounds_toArray, List.set_cons_zero, List.set_cons_succ]
      refine wpAnyH_ready (rs := [5]) (by kernel_rfl) (by simp) (AllReadyH.cons rfl (fun K hK => ?_) AllReadyH.nil)
      go_simp
      clear hHeld
      refine hK.out _ _ ?hs (fun hHeld => ?_)
      case hs => (first | trivial | ((try dsimp only); go_keep) | ((try dsimp only); simp [*, World.cell?_alloc_some, World.cell?_setCell_far, World.cell?_setCell_other]))
      clear hK K
      try simp only [Act.put, List.setIfInBounds_toArray, List.set_cons_zero, List.set_cons_succ]
      obtain ⟨W5, hW5⟩ : ∃ W5, (((((w10.setCell ⟨T2, 0, none⟩ (.string ⟨#[]⟩)).setCell ⟨T2, 1, none⟩ (.slice none 0 0)).setCell ⟨T2, 2, none⟩ (.slice none 0 0)).setCell ⟨T2, 3, none⟩ (.slice none 0 0)).drew) = W5 := ⟨_, rfl⟩
      have gF := hF.zero hne2' hne4' ho2
      rw [hW5] at gF
      rw [hW5]
      clear hW5
      clear x2 x3 xh2 xh3 m0 m1 m2 m3 mfz l0 l1 lfz
      have x2 := gF.b2
      have x3 := gF.b3
      have xh2 := gF.h2
      have xh3 := gF.h3
      try dsimp only at x2 x3
      have m0 : W5.cell? ⟨T2, 0, none⟩ = some (.string ⟨#[]⟩) := by simp [World.cell?, xh2]
      have m1 : W5.cell? ⟨T2, 1, none⟩ = some (.slice none 0 0) := by simp [World.cell?, xh2]
      have m2 : W5.cell? ⟨T2, 2, none⟩ = some (.slice none 0 0) := by simp [World.cell?, xh2]
      have m3 : W5.cell? ⟨T2, 3, none⟩ = some (.slice none 0 0) := by simp [World.cell?, xh2]
      have mfz : ∀ i, W5.frozen? ⟨T2, i, none⟩ = false := fun i => by simp [World.frozen?, xh2]
      have l0 : W5.cell? ⟨T3, 0, none⟩ = some (.int .i64 0) := by simp [World.cell?, xh3]
      have l1 : W5.cell? ⟨T3, 1, none⟩ = some (.int .i64 0) := by simp [World.cell?, xh3]
      have lfz : ∀ i, W5.frozen? ⟨T3, i, none⟩ = false := fun i => by simp [World.frozen?, xh3]
      refine wpAnyH_ready (rs := [6]) (by kernel_rfl) (by simp) (AllReadyH.cons rfl (fun K hK => ?_) AllReadyH.nil)
      go_simp
      clear hHeld
      refine hK.out _ _ ?hs (fun hHeld => ?_)
      case hs => (first | trivial | ((try dsimp only); go_keep) | ((try dsimp only); simp [*, World.cell?_alloc_some, World.cell?_setCell_far, World.cell?_setCell_other]))
      clear hK K
      try simp only [Act.put, List.setIfInBounds_toArray, List.set_cons_zero, List.set_cons_succ]
      refine wpAnyH_done (by kernel_rfl) ?_ _
      clear hHeld
      go_wp2
      refine bodyPost_ret (v := .tuple #[.agg #[.string ⟨#[]⟩, .slice none 0 0, .slice none 0 0, .slice none 0 0], .agg #[.int .i64 (r9.fk : Nat), .int .i64 (r9.fa : Nat)]]) (by simp [results, Tryz.results15, go_sem, m0, m1, m2, m3, l0, l1, hne4, hne4']) rfl ?_
      rw [← e9a.out]
      exact ⟨_, _, _, rfl, code_nil _, gF.ch.trans (O1 := fun k => k = T3) (by first | exact ((Ch.refl (fun k => k = T3) _).set (a := ⟨T3, 0, none⟩) rfl _).set (a := ⟨T3, 1, none⟩) rfl _ | exact (((Ch.refl (fun k => k = T3) _).set (a := ⟨T3, 0, none⟩) rfl _).set (a := ⟨T3, 1, none⟩) rfl _).dr) (fun i e => .inr (by omega))⟩
    · go_simp
      clear hHeld
      refine hK.out _ _ ?hs (fun hHeld => ?_)
      case hs => (first | trivial | ((try dsimp only); go_keep) | ((try dsimp only); simp [*, World.cell?_alloc_some, World.cell?_setCell_far, World.cell?_setCell_other]))
      clear hK K
      try simp only [Act.put, List.setIfInBounds_toArray, List.set_cons_zero, List.set_cons_succ]
      obtain ⟨W5, hW5⟩ : ∃ W5, (((((w10.setCell ⟨T2, 0, none⟩ (.string ⟨#[]⟩)).setCell ⟨T2, 1, none⟩ (.slice none 0 0)).setCell ⟨T2, 2, none⟩ (.slice none 0 0)).setCell ⟨T2, 3, none⟩ (.slice none 0 0)).drew) = W5 := ⟨_, rfl⟩
      have gF := hF.zero hne2' hne4' ho2
      rw [hW5] at gF
      rw [hW5]
      clear hW5
      clear x2 x3 xh2 xh3 m0 m1 m2 m3 mfz l0 l1 lfz
      have x2 := gF.b2
      have x3 := gF.b3
      have xh2 := gF.h2
      have xh3 := gF.h3
      try dsimp only at x2 x3
      have m0 : W5.cell? ⟨T2, 0, none⟩ = some (.string ⟨#[]⟩) := by simp [World.cell?, xh2]
      have m1 : W5.cell? ⟨T2, 1, none⟩ = some (.slice none 0 0) := by simp [World.cell?, xh2]
      have m2 : W5.cell? ⟨T2, 2, none⟩ = some (.slice none 0 0) := by simp [World.cell?, xh2]
      have m3 : W5.cell? ⟨T2, 3, none⟩ = some (.slice none 0 0) := by simp [World.cell?, xh2]
      have mfz : ∀ i, W5.frozen? ⟨T2, i, none⟩ = false := fun i => by simp [World.frozen?, xh2]
      have l0 : W5.cell? ⟨T3, 0, none⟩ = some (.int .i64 0) := by simp [World.cell?, xh3]
      have l1 : W5.cell? ⟨T3, 1, none⟩ = some (.int .i64 0) := by simp [World.cell?, xh3]
      have lfz : ∀ i, W5.frozen? ⟨T3, i, none⟩ = false := fun i => by simp [World.frozen?, xh3]
      refine wpAnyH_ready (rs := [4]) (by kernel_rfl) (by simp) (AllReadyH.cons rfl (fun K hK => ?_) AllReadyH.nil)
      go_simp
      clear hHeld
      refine hK.out _ _ ?hs (fun hHeld => ?_)
      case hs => (first | trivial | ((try dsimp only); go_keep) | ((try dsimp only); simp [*, World.cell?_alloc_some, World.cell?_setCell_far, World.cell?_setCell_other]))
      clear hK K
      try simp only [Act.put, List.setIfInBounds_toArray, List.set_cons_zero, List.set_cons_succ]
      refine wpAnyH_ready (rs := [6]) (by kernel_rfl) (by simp) (AllReadyH.cons rfl (fun K hK => ?_) AllReadyH.nil)
      go_simp
      clear hHeld
      refine hK.out _ _ ?hs (fun hHeld => ?_)
      case hs => (first | trivial | ((try dsimp only); go_keep) | ((try dsimp only); simp [*, World.cell?_alloc_some, World.cell?_setCell_far, World.cell?_setCell_other]))
      clear hK K
      try simp only [Act.put, List.setIfInBounds_toArray, List.set_cons_zero, List.set_cons_succ]
      refine wpAnyH_done (by kernel_rfl) ?_ _
      clear hHeld
      go_wp2
      refine bodyPost_ret (v := .tuple #[.agg #[.string ⟨#[]⟩, .slice none 0 0, .slice none 0 0, .slice none 0 0], .agg #[.int .i64 (r9.fk : Nat), .int .i64 (r9.fa : Nat)]]) (by simp [results, Tryz.results15, go_sem, m0, m1, m2, m3, l0, l1, hne4, hne4']) rfl ?_
      rw [← e9a.out]
      exact ⟨_, _, _, rfl, code_nil _, gF.ch.trans (O1 := fun k => k = T3) (by first | exact ((Ch.refl (fun k => k = T3) _).set (a := ⟨T3, 0, none⟩) rfl _).set (a := ⟨T3, 1, none⟩) rfl _ | exact (((Ch.refl (fun k => k = T3) _).set (a := ⟨T3, 0, none⟩) rfl _).set (a := ⟨T3, 1, none⟩) rfl _).dr) (fun i e => .inr (by omega))⟩
/-- Decode answers what the plain function does. -/
theorem rdecode_any (w : World) (s : List UInt8) : Calls Tryz.prog 15 #[.string ⟨s.toArray⟩] w fun e w' => DecPost w (Cd.dec s) e w' := by
  by_cases hl : 4000000 < s.length
  · have e : Cd.dec s = (⟨[], [], [], []⟩, 1, 0) := by unfold Cd.dec; rw [if_pos hl]
    rw [e]
    exact rdecode_long w s hl
  · obtain ⟨r1, e0⟩ : ∃ r1, Cd.Rd.head s 3 ⟨3, 0, 0⟩ = r1 := ⟨_, rfl⟩
    obtain ⟨k, r2, e1⟩ : ∃ k r2, r1.num s 2 = (k, r2) := ⟨_, _, rfl⟩
    obtain ⟨t, r3, e2⟩ : ∃ t r3, r2.text s k = (t, r3) := ⟨_, _, rfl⟩
    obtain ⟨n, r4, e3⟩ : ∃ n r4, r3.num s 1 = (n, r4) := ⟨_, _, rfl⟩
    obtain ⟨os, r5, e4⟩ : ∃ os r5, r4.opsL s n = (os, r5) := ⟨_, _, rfl⟩
    obtain ⟨m, r6, e5⟩ : ∃ m r6, r5.num s 2 = (m, r6) := ⟨_, _, rfl⟩
    obtain ⟨hs, r7, e6⟩ : ∃ hs r7, r6.hansL s m = (hs, r7) := ⟨_, _, rfl⟩
    obtain ⟨q, r8, e7⟩ : ∃ q r8, r7.num s 2 = (q, r8) := ⟨_, _, rfl⟩
    obtain ⟨fs, r9, e8⟩ : ∃ fs r9, r8.funsL s q = (fs, r9) := ⟨_, _, rfl⟩
    refine rdecode_short w s (by omega) e0 e1 e2 e3 e4 e5 e6 e7 e8 ?_
    unfold Cd.dec Cd.Rd.code
    rw [if_neg hl]
    simp only [e0, e1, e2, e3, e4, e5, e6, e7, e8]
    by_cases h0 : r9.fk = 0
    · by_cases h1 : r9.pos < s.length
      · simp [h0, h1, Cd.Rd.no]
      · simp [h0, h1]
    · simp [h0]
end Go.Proofs.YtpjbfdpblgjmfaaGreatDoor
