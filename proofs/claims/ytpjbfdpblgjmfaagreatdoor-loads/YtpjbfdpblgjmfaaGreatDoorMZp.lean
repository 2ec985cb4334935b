/-
  The machine's bare segment: find and Cut where each tag is wanted.
  A new heap; a call of function 0.
-/
import Derived.Test.YtpjbfdpblgjmfaaGreatDoorZo
import Derived.Test.YtpjbfdpblgjmfaaGreatDoorMZf
import Derived.Test.YtpjbfdpblgjmfaaGreatDoorMA
set_option linter.unusedVariables false
set_option linter.unusedSimpArgs false
namespace Go.Proofs.YtpjbfdpblgjmfaaGreatDoor
open Go.RowKit

theorem want_any (w : World) (x : Value) :
    Calls Tryz.prog 28 #[x] w fun e w' => e = .returned (.bool true) ∧ w' = w := by
  go_enter Tryz.func28, Tryz.ntmps28
  go_wp2
  go_ret
  exact ⟨rfl, rfl⟩
set_option maxRecDepth 100000 in
set_option maxHeartbeats 4000000 in
theorem find_bare (w : World) (b : Nat) (a : Option Addr) (cap : Nat) (t : Value) (h0 : w.cell? ⟨b, 0, none⟩ = some (.slice a 1 cap)) (h3 : w.cell? ⟨b, 3, none⟩ = some t) (h4 : w.cell? ⟨b, 4, none⟩ = some (.bool true)) (ht : t.oneCell' = true) :
    Calls Tryz.prog 64 #[.pointer (some ⟨b, 0, none⟩), .func (.func 28) #[] #[]] w fun e w' => e = .returned (.int .i64 1) ∧ w' = w := by
  have hnil : ∀ W : World, Sem.run Tryz.prog (binOp BinOp.eql 105 (.func (.func 28) #[] #[]) .nilFunc) W = .ok (.bool false) W := fun W => by kernel_rfl
  have HA := at_inner w b 1 a cap h0
  have HW := hid (fun x => want_any w x)
  go_enter Tryz.func64, Tryz.ntmps64
  go_wp2
  refine wp_loop_rounds 1 ?_
  rw [rounds_succ]
  go_wp2_with (first
    | (go_at_call 66; refine HA.mono ?_; clear HA; rintro e w9 ⟨rfl, rfl⟩)
    | (go_at_call 28; refine (HW.out _).mono ?_; clear HW; rintro e w9 ⟨rfl, rfl⟩))
  go_ret
  exact ⟨rfl, rfl⟩

set_option maxHeartbeats 1000000 in
theorem untag_any (w : World) (c o : Nat) (t h : Value) (h2 : w.cell? ⟨c, o + 2, none⟩ = some t) (h3 : w.cell? ⟨c, o + 3, none⟩ = some h) (hf : ∀ i, w.frozen? ⟨c, i, none⟩ = false) :
    Calls Tryz.prog 67 #[.pointer (some ⟨c, o, none⟩)] w fun e w' => e = .returned (.tuple #[]) ∧ w' = (w.setCell ⟨c, o + 2, none⟩ (.pointer none)).setCell ⟨c, o + 3, none⟩ (.bool false) := by
  have f2 := hf (o + 2)
  have f3 := hf (o + 3)
  go_enter Tryz.func67, Tryz.ntmps67
  go_wp2
  go_end0
  exact ⟨rfl, rfl⟩
def seg0 : Sn := ⟨none, ⟨false, none, []⟩⟩
def seg1 : Sn := ⟨none, ⟨true, none, []⟩⟩

set_option maxRecDepth 100000 in
set_option maxHeartbeats 4000000 in
theorem cut_bare {D : Nat → Prop} (w : World) (sb g cap : Nat) (h : StM D w sb 101 (.slice (some ⟨g, 0, none⟩) 1 cap) [seg0] seg1) :
    Calls Tryz.prog 27 #[.pointer (some ⟨sb, 0, none⟩), .func (.func 28) #[] #[], .bool false] w fun e w' => ∃ p : Nat, e = .returned (.tuple #[.pointer (some ⟨p, 0, none⟩), .pointer none, .bool true]) ∧ Ch (fun k => k = sb ∨ k = g) w w' := by
  obtain ⟨c0, c1, c2, c3, c4, c5, hf⟩ := h.cells
  have hrow := h.row
  have hne := h.ne
  have hbl := h.lt
  have hgl : g < w.heap.size := ownsRow_lt h.row rfl
  have hbW : (w.alloc (.cells (rowCells (.slice (some ⟨g, 0, none⟩) 1 cap) [seg0] seg1) 99)).heap[w.heap.size]? = some (.cells (rowCells (.slice (some ⟨g, 0, none⟩) 1 cap) [seg0] seg1) 99 (0, 0)) := World.alloc_heap_new _ _
  have hrW : (w.alloc (.cells (rowCells (.slice (some ⟨g, 0, none⟩) 1 cap) [seg0] seg1) 99)).ownsRow 0 97 4 (.slice (some ⟨g, 0, none⟩) 1 cap) 1 ([seg0].flatMap Sn.cells) := ownsRow_keep hrow (fun k hk => (Ch.alloc (fun _ => False) w _).same k (ownsRow_lt hrow hk) (fun h => h))
  have HS := split_any (w.alloc (.cells (rowCells (.slice (some ⟨g, 0, none⟩) 1 cap) [seg0] seg1) 99)) w.heap.size 99 g cap [seg0] seg1 0 seg0 hbW hrW (by omega) (by decide) rfl (by decide) (by decide)
  have HF := find_bare (w.alloc (.cells (rowCells (.slice (some ⟨g, 0, none⟩) 1 cap) [seg0] seg1) 99)) w.heap.size (some ⟨g, 0, none⟩) cap (.pointer none) (by simp [rowCells]) (by simp [rowCells, seg1]) (by simp [rowCells, seg1]) rfl
  simp only [rowCells, seg0, seg1, cntN, List.take_zero, List.drop_succ_cons, List.drop_zero, List.nil_append, List.map_cons, List.map_nil, List.sum_cons, List.sum_nil, List.length_nil, List.cons_append, Nat.add_zero] at HS HF c0 c1 c2 c3 c4 c5
  clear hrW hbW hrow
  go_enter Tryz.func27, Tryz.ntmps27
  go_upto_region 7 with (first
    | (go_at_call 64; refine HF.mono ?_; clear HF; rintro e w9 ⟨rfl, rfl⟩)
    | (go_at_call 65; refine HS.mono ?_; clear HS; rintro e w2 ⟨v2, rfl, hr1, hr2, hv2, hc2⟩; obtain ⟨a2, cap2, rfl, _, _⟩ := row_slice hr2))
  have hgs : g ≠ sb := fun e => hne (by rw [e]; rfl)
  have hc0 : Ch (fun k => k = g) w w2 := ((Ch.refl (fun k => k = g) w).al _).trans hc2 (fun _ h => .inl h)
  have hs2 : w2.heap[sb]? = some (.cells #[.slice (some ⟨g, 0, none⟩) 1 cap, .pointer none, .int .i64 0, .pointer none, .bool true, .int .i64 0] 101 (0, 0)) := (hc0.same sb hbl (fun e => hgs e.symm)).trans h.blk
  have hl2 : w.heap.size < w2.heap.size := by have := hc2.size; simp at this; omega
  obtain ⟨W, hW⟩ : ∃ W, (w2.alloc (.cells #[.slice (some ⟨g, 0, none⟩) 0 cap, .pointer none, .int .i64 0, .pointer none, .bool false, .int .i64 0] 99)).alloc (.cells #[.slice a2 0 cap2, .pointer none, .int .i64 0, .pointer none, .bool true, .int .i64 0] 99) = W := ⟨_, rfl⟩
  have hcW : Ch (fun k => k = g) w W := by rw [← hW]; exact (hc0.al _).al _
  have hsW : W.heap[sb]? = some (.cells #[.slice (some ⟨g, 0, none⟩) 1 cap, .pointer none, .int .i64 0, .pointer none, .bool true, .int .i64 0] 101 (0, 0)) := by rw [← hW]; exact blk_alloc (blk_alloc hs2)
  have hzW : W.heap.size = w2.heap.size + 2 := by rw [← hW]; simp
  have hA : W.heap[w2.heap.size]? = some (.cells #[.slice (some ⟨g, 0, none⟩) 0 cap, .pointer none, .int .i64 0, .pointer none, .bool false, .int .i64 0] 99 (0, 0)) := by rw [← hW]; exact blk_alloc (World.alloc_heap_new _ _)
  have hB : W.heap[w2.heap.size + 1]? = some (.cells #[.slice a2 0 cap2, .pointer none, .int .i64 0, .pointer none, .bool true, .int .i64 0] 99 (0, 0)) := by
    rw [← hW]; have := World.alloc_heap_new (w2.alloc (.cells #[.slice (some ⟨g, 0, none⟩) 0 cap, .pointer none, .int .i64 0, .pointer none, .bool false, .int .i64 0] 99)) (.cells #[.slice a2 0 cap2, .pointer none, .int .i64 0, .pointer none, .bool true, .int .i64 0] 99); rwa [World.size_alloc] at this
  rw [hW]
  clear hW hs2 hc0 hc2 hr1 hr2 hv2 c0 c1 c2 c3 c4 c5 hf
  obtain ⟨s0, s1, s2, s3, s4, s5, sf⟩ := six_cells hsW
  obtain ⟨p0, p1, p2, p3, p4, p5, pf⟩ := six_cells hA
  obtain ⟨q0, q1, q2, q3, q4, q5, qf⟩ := six_cells hB
  have HcW := hid hcW
  clear hcW hsW hA hB
  go_upto_region 9 with (fail)
  obtain ⟨V0, hV0⟩ : ∃ V0, (((((W.setCell ⟨sb, 0, none⟩ (.slice (some ⟨g, 0, none⟩) 0 cap)).setCell ⟨sb, 1, none⟩ (.pointer none)).setCell ⟨sb, 2, none⟩ (.int .i64 0)).setCell ⟨sb, 3, none⟩ (.pointer none)).setCell ⟨sb, 4, none⟩ (.bool false)).setCell ⟨sb, 5, none⟩ (.int .i64 0) = V0 := ⟨_, rfl⟩
  have hcV0 : Ch (fun k => k = sb) W V0 := by
    rw [← hV0]
    exact ((((((Ch.refl (fun k => k = sb) W).set (a := ⟨sb, 0, none⟩) rfl _).set (a := ⟨sb, 1, none⟩) rfl _).set (a := ⟨sb, 2, none⟩) rfl _).set (a := ⟨sb, 3, none⟩) rfl _).set (a := ⟨sb, 4, none⟩) rfl _).set (a := ⟨sb, 5, none⟩) rfl _
  have hzV0 : V0.heap.size = w2.heap.size + 2 := by rw [← hV0]; simpa using hzW
  obtain ⟨V, hV⟩ : ∃ V, V0.alloc (.cells #[.slice a2 0 cap2, .pointer none, .int .i64 0, .pointer none, .bool true, .int .i64 0] 169) = V := ⟨_, rfl⟩
  have hcV : Ch (fun k => k = sb ∨ k = g) w V := by
    rw [← hV]
    exact ((HcW.out.mono (fun _ h => .inr h)).trans hcV0 (fun _ h => .inl (.inl h))).al _
  have hP : V.heap[w2.heap.size + 2]? = some (.cells #[.slice a2 0 cap2, .pointer none, .int .i64 0, .pointer none, .bool true, .int .i64 0] 169 (0, 0)) := by
    rw [← hV, ← hzV0]; exact World.alloc_heap_new _ _
  rw [hV0, hV]
  clear hV hV0 hcV0 hzV0 HcW s0 s1 s2 s3 s4 s5 sf p0 p1 p2 p3 p4 p5 pf q0 q1 q2 q3 q4 q5 qf hzW
  obtain ⟨e0, e1, e2, e3, e4, e5, ef⟩ := six_cells hP
  have HA := hid (at_inner V (w2.heap.size + 2) 0 a2 cap2 e0)
  have HU := untag_any V (w2.heap.size + 2) 1 _ _ e3 e4 ef
  have HcV := hid hcV
  clear hcV hP
  go_wp2_with (first
    | (go_at_call 66; refine (HA.out).mono ?_; rintro e w9 ⟨rfl, hw9⟩; obtain rfl := hw9.symm)
    | (go_at_call 67; refine HU.mono ?_; clear HU; rintro e w9 ⟨rfl, rfl⟩))
  refine bodyPost_ret (v := .tuple #[.pointer (some ⟨w2.heap.size + 2, 0, none⟩), .pointer none, .bool true]) (by simp [results, Tryz.results27, go_sem]) rfl ⟨_, rfl, ?_⟩
  exact (HcV.out.trans (Ch.setCell (O := fun k => k = w2.heap.size + 2) V ⟨w2.heap.size + 2, 3, none⟩ (.pointer none) rfl) (fun k hk => .inr (by omega))).trans (Ch.setCell (O := fun k => k = w2.heap.size + 2) _ ⟨w2.heap.size + 2, 4, none⟩ (.bool false) rfl) (fun k hk => .inr (by omega))

set_option maxRecDepth 100000 in
set_option maxHeartbeats 4000000 in
theorem bare_any (w : World) :
    Calls Tryz.prog 12 #[] w fun e w' => ∃ p : Nat, e = .returned (.pointer (some ⟨p, 0, none⟩)) ∧ Ch (fun _ => False) w w' := by
  have hb0 := World.alloc_heap_new w (.cells #[.slice none 0 0, .pointer none, .int .i64 0, .pointer none, .bool false, .int .i64 0] 101)
  have h0 : StM (fun _ => False) (w.alloc (.cells #[.slice none 0 0, .pointer none, .int .i64 0, .pointer none, .bool false, .int .i64 0] 101)) w.heap.size 101 (.slice none 0 0) [] seg0 :=
    ⟨hb0, ⟨rfl, .inl ⟨rfl, rfl⟩⟩, fun x hx => (by simp at hx; subst hx; rfl), fun _ _ h => h, by simp [Value.ownBlock]⟩
  have HO := open_any (w.alloc (.cells #[.slice none 0 0, .pointer none, .int .i64 0, .pointer none, .bool false, .int .i64 0] 101)) w.heap.size (.slice none 0 0) [] seg0 none (fun _ h => h.elim) h0 (by decide)
  have HN := new_any w
  have HC := hid (fun (W : World) (g cap : Nat) (h : StM (fun _ => False) W w.heap.size 101 (.slice (some ⟨g, 0, none⟩) 1 cap) [seg0] seg1) => cut_bare W w.heap.size g cap h)
  go_enter Tryz.func12, Tryz.ntmps12
  go_wp2_with (first
    | (go_at_call 11; refine HN.mono ?_; clear HN; rintro e w9 ⟨rfl, rfl⟩)
    | (go_at_call 26; refine HO.mono ?_; clear HO; rintro e w2 ⟨rfl, v', hS, hc2, hm2⟩
       obtain ⟨g, cap, rfl⟩ := ownsRow_succ hS.row
       replace HC := HC.out w2 g cap hS
       replace hS := hid hS
       replace hc2 := hid hc2
       replace hm2 := hid hm2)
    | (go_at_call 27; refine HC.mono ?_; clear HC; rintro e w3 ⟨p, rfl, hc3⟩))
  go_ret
  refine ⟨p, rfl, ?_⟩
  have hz : w.heap.size ≤ g := by
    rcases hm2.out g (.inr rfl) with h1 | h1
    · rcases h1 with h1 | h1
      · omega
      · cases h1
    · simp at h1; omega
  have k1 : Ch (fun _ => False) w w2 := ((Ch.refl (fun _ => False) w).al _).trans hc2.out (fun k hk => by
    rcases hk with h1 | h1
    · exact .inr (by omega)
    · cases h1)
  exact k1.trans hc3 (fun k hk => .inr (by omega))
end Go.Proofs.YtpjbfdpblgjmfaaGreatDoor

namespace Go.Proofs.YtpjbfdpblgjmfaaGreatDoor
open Go.RowKit

theorem run_make_rows {P : Program} (t e : TypeId) (z : Value) (size bytes : Nat) (ht : P.underlying t = some (.slice e)) (hinfo : (P.info? e).map (fun i => (i.zero, i.size, i.bytes)) = some (some z, size, bytes))
    (kl kc : IntKind) (n : Nat) (hbytes : bytes * n ≤ 281474976710656) (h63 : n ≤ 9223372036854775807) (w : World) :
    ∃ cs, (Instr.makeSlice t (.int kl (n : Int)) (.int kc (n : Int))).run P w = .ok (.slice (some ⟨w.heap.size, 0, none⟩) n n) (w.alloc (.cells cs e)) := by
  obtain ⟨i, hi, hzz⟩ := Option.map_eq_some_iff.1 hinfo
  simp only [Prod.mk.injEq] at hzz
  obtain ⟨hz, hs, hb⟩ := hzz
  have hb' : (i.bytes : Int) * (n : Int) ≤ 281474976710656 := by
    have h : ((i.bytes * n : Nat) : Int) ≤ 281474976710656 := by rw [hb]; omega
    rwa [Int.natCast_mul] at h
  have hr := run_make (P := P) w t e i z ht hi hz kl kc n n (by omega) (Int.le_refl _) hb' (by omega)
  simp only [Int.toNat_natCast] at hr
  exact ⟨_, hr⟩
theorem Tryz.infoHC : (Tryz.prog.info? 177).map (fun i => (i.zero, i.size, i.bytes)) = some (some (.agg #[.int .u8 0, .int .u8 0, .int .u16 0, .int .u32 0, .int .i64 0]), 5, 16) := by kernel_rfl

set_option maxHeartbeats 1000000 in
theorem hnew_ok (w : World) (n : Nat) (hn : n ≤ 1000000) :
    Calls Tryz.prog 10 #[.int .i64 n] w fun e w' => e = .returned (.tuple #[.pointer (some ⟨w.heap.size + 1, 0, none⟩), .int .i64 0]) ∧ (∃ v, w'.heap[w.heap.size + 1]? = some (.cells #[v, .int .i64 0] 93 (0, 0))) ∧ Ch (fun _ => False) w w' := by
  obtain ⟨cs, hmk⟩ := run_make_rows (P := Tryz.prog) 91 177 _ 5 16 Tryz.underlying91 Tryz.infoHC .i64 .i64 n (by omega) (by omega) w
  have h1 : ¬ ((n : Int) < 0) := by omega
  have h2 : ¬ ((1000000 : Int) < (n : Int)) := by omega
  go_enter Tryz.func10, Tryz.ntmps10
  go_wp2
  refine bodyPost_ret (v := .tuple #[.pointer (some ⟨w.heap.size + 1, 0, none⟩), .int .i64 0]) (by simp [results, Tryz.results10, go_sem]) rfl ?_
  refine ⟨rfl, ⟨.slice (some ⟨w.heap.size, 0, none⟩) n n, ?_⟩, ((Ch.refl _ w).al _).al _⟩
  have := World.alloc_heap_new (w.alloc (.cells cs 177)) (.cells #[.slice (some ⟨w.heap.size, 0, none⟩) n n, .int .i64 0] 93)
  rwa [World.size_alloc] at this
set_option maxHeartbeats 1000000 in
theorem hnew_no (w : World) (n : Int) (hn : n < 0 ∨ 1000000 < n) :
    Calls Tryz.prog 10 #[.int .i64 n] w fun e w' => e = .returned (.tuple #[.pointer none, .int .i64 11]) ∧ w' = w := by
  rcases hn with h | h
  · go_enter Tryz.func10, Tryz.ntmps10
    go_wp2
    refine bodyPost_ret (v := .tuple #[.pointer none, .int .i64 11]) (by simp [results, Tryz.results10, go_sem]) rfl ?_
    exact ⟨rfl, rfl⟩
  · have h1 : ¬ (n < 0) := by omega
    go_enter Tryz.func10, Tryz.ntmps10
    go_wp2
    refine bodyPost_ret (v := .tuple #[.pointer none, .int .i64 11]) (by simp [results, Tryz.results10, go_sem]) rfl ?_
    exact ⟨rfl, rfl⟩

set_option maxRecDepth 100000 in
set_option maxHeartbeats 4000000 in
theorem call_zero (w : World) (mb g k len cap : Nat) (n : Int) (hl : 0 < len) (hf : w.cell? ⟨mb, 3, none⟩ = some (.slice (some ⟨g, k, none⟩) len cap)) (hs : w.cell? ⟨g, k + 1, none⟩ = some (.int .i64 n)) :
    Calls Tryz.prog 14 #[.pointer (some ⟨mb, 0, none⟩), .agg #[.bool false, .int .i64 0], .agg #[.bool false, .int .i64 0]] w fun e w' => e = .returned (.pointer (some ⟨w.heap.size + 2, 0, none⟩)) ∧ CallAt w' (w.heap.size + 2) n ∧ Ch (fun _ => False) w w' := by
  have hml : mb < w.heap.size := block_lt_of_cell hf
  have hgl : g < w.heap.size := block_lt_of_cell hs
  obtain ⟨V, hV⟩ : ∃ V, (w.alloc (.cells #[.bool false, .int .i64 0] 62)).alloc (.cells #[.bool false, .int .i64 0] 62) = V := ⟨_, rfl⟩
  have hcV : Ch (fun _ => False) w V := by rw [← hV]; exact ((Ch.refl _ w).al _).al _
  have hzV : V.heap.size = w.heap.size + 2 := by rw [← hV]; simp
  have hA : V.heap[w.heap.size]? = some (.cells #[.bool false, .int .i64 0] 62 (0, 0)) := by rw [← hV]; exact blk_alloc (World.alloc_heap_new _ _)
  have hB : V.heap[w.heap.size + 1]? = some (.cells #[.bool false, .int .i64 0] 62 (0, 0)) := by
    rw [← hV]; have := World.alloc_heap_new (w.alloc (.cells #[.bool false, .int .i64 0] 62)) (.cells #[.bool false, .int .i64 0] 62); rwa [World.size_alloc] at this
  have a0 : V.cell? ⟨w.heap.size, 0, none⟩ = some (.bool false) := by simp [World.cell?, hA]
  have a1 : V.cell? ⟨w.heap.size, 1, none⟩ = some (.int .i64 0) := by simp [World.cell?, hA]
  have b0 : V.cell? ⟨w.heap.size + 1, 0, none⟩ = some (.bool false) := by simp [World.cell?, hB]
  have b1 : V.cell? ⟨w.heap.size + 1, 1, none⟩ = some (.int .i64 0) := by simp [World.cell?, hB]
  have hfV : V.cell? ⟨mb, 3, none⟩ = some (.slice (some ⟨g, k, none⟩) len cap) := (hcV.cell (p := ⟨mb, 3, none⟩) hml (fun h => h)).trans hf
  have hsV : V.cell? ⟨g, k + 1, none⟩ = some (.int .i64 n) := (hcV.cell (p := ⟨g, k + 1, none⟩) hgl (fun h => h)).trans hs
  have hln : (0 : Int) < (len : Int) := by omega
  have HcV := hid hcV
  clear hf hs hA hB hcV
  go_enter Tryz.func14, Tryz.ntmps14
  go_upto_region 1 with (fail)
  clear hV
  go_wp2
  go_region
  all_goals go_wp2
  all_goals
    go_ret
    refine ⟨rfl, ?_, ((HcV.out).al _).dr⟩
    show (V.alloc _).heap[w.heap.size + 2]? = _
    rw [← hzV]
    exact World.alloc_heap_new _ _
end Go.Proofs.YtpjbfdpblgjmfaaGreatDoor
