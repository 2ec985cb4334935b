/-
  What the program's rules do: expr.
  What the program's rules do: row.
-/
import Derived.Test.YtoajnlhegallpaaGreatDoorMDw
set_option linter.unusedVariables false
set_option linter.unusedSimpArgs false
set_option maxRecDepth 100000
set_option maxHeartbeats 4000000
namespace Go.Proofs.YtoajnlhegallpaaGreatDoor
open Go.RowKit

theorem dexpr_face  (X : Sy.R Sy.Tr) (w : World) (b ee d : Nat) (z : Sy.Env) (ts : List Lx.Tk) (h : Dr w b z ts ee d)
  (hcall : ∀ W : World, Dr W b z ts ee d → W.cell? ⟨w.heap.size, 0, none⟩ = some (.pointer (some ⟨b, 0, none⟩)) → w.heap.size < W.heap.size →
   Calls Tryz.prog 67 #[.pointer (some ⟨b, 0, none⟩), .pointer (some ⟨b, 4, none⟩), .func (Fn.func 68) #[] #[.pointer (some ⟨w.heap.size, 0, none⟩)]] W fun en w' => DRes W b z X ee d en w') :
  Calls Tryz.prog 34 #[.pointer (some ⟨b, 0, none⟩)] w fun en w' => DRes w b z X ee d en w' := by
 have hmf : ∀ (fn : Fn) (first cap : Array Value) (w : World), (Instr.makeFunc fn first cap).run Tryz.prog w = .ok (.func fn first cap) w := fun _ _ _ _ => rfl
 have H := hid h
 have HC := hid hcall
 have hbR : b < w.heap.size := h.lt
 clear h hcall
 have hb0 : ¬ b = w.heap.size := by omega
 obtain ⟨W0, hW0⟩ : ∃ W0, (w.alloc (.cells #[.pointer (some ⟨b, 0, none⟩)] 36)).alloc (.cells #[.int .i64 0, .int .i64 0, .string ⟨#[]⟩, .int .i64 0, .slice none 0 0] 24) = W0 := ⟨_, rfl⟩
 have hz0 : W0.heap.size = w.heap.size + 2 := by rw [← hW0]; simp
 have HR0 : Hid (Dr W0 b z ts ee d) := by rw [Hid, ← hW0]; exact (H.out.alloc _).alloc _
 have HK0 : Hid (Kp b w W0) := by rw [Hid, ← hW0]; exact ((Kp.refl b w).alloc _).alloc _
 have hB0 : W0.cell? ⟨w.heap.size, 0, none⟩ = some (.pointer (some ⟨b, 0, none⟩)) := by
  have h1 := ((Blk.new w [.pointer (some ⟨b, 0, none⟩)] 36).alloc (.cells #[.int .i64 0, .int .i64 0, .string ⟨#[]⟩, .int .i64 0, .slice none 0 0] 24) 0 _ rfl).1
  rw [← hW0]
  exact h1
 have HRS0 : Hid (Blk W0 (w.heap.size + 1) [.int .i64 0, .int .i64 0, .string ⟨#[]⟩, .int .i64 0, .slice none 0 0]) := by
  have h1 := Blk.new (w.alloc (.cells #[.pointer (some ⟨b, 0, none⟩)] 36)) [.int .i64 0, .int .i64 0, .string ⟨#[]⟩, .int .i64 0, .slice none 0 0] 24
  rw [show (w.alloc (.cells #[.pointer (some ⟨b, 0, none⟩)] 36)).heap.size = w.heap.size + 1 by simp] at h1
  rw [Hid, ← hW0]
  exact h1
 have HW0 := hid hW0
 clear hW0
 go_enter Tryz.func34, Tryz.ntmps34
 go_wp2_with fail
 try rw [HW0.out]
 rcases hX : X with f | ⟨y, us⟩
 ·refine wp_region_held_drew (S := (fun w' => w'.cell? ⟨w.heap.size, 0, none⟩ = some (.pointer (some ⟨b, 0, none⟩)))) (by kernel_rfl) (by first | trivial | (dsimp only; go_keep)) (fun hHeld => ?_)
  refine wpAnyH_take (i := 0) (v := ?vv0_1) rfl (by kernel_rfl) (by kernel_rfl) (by kernel_rfl) (fun _ _ _ h => h) (Or.inl ⟨by rfl, ?yy0_1⟩) (by assumption) ?rr0_1
  case yy0_1 => (intro w hSw; (try dsimp only at hSw); go_simp; (try with_reducible rfl))
  try simp only [Act.put, List.setIfInBounds_toArray, List.set_cons_zero, List.set_cons_succ]
  refine wpAnyH_take (i := 1) (v := ?vv1_1) rfl (by kernel_rfl) (by kernel_rfl) (by kernel_rfl) (fun _ _ _ h => h) (Or.inl ⟨by rfl, ?yy1_1⟩) (by assumption) ?rr1_1
  case yy1_1 => (intro w hSw; (try dsimp only at hSw); go_simp; (try with_reducible rfl))
  try simp only [Act.put, List.setIfInBounds_toArray, List.set_cons_zero, List.set_cons_succ]
  refine wpAnyH_take (i := 2) (v := ?vv2_1) rfl (by kernel_rfl) (by kernel_rfl) (by kernel_rfl) (fun _ _ _ h => h) (Or.inl ⟨by rfl, ?yy2_1⟩) (by assumption) ?rr2_1
  case yy2_1 => (intro w hSw; (try dsimp only at hSw); go_simp; (try with_reducible rfl))
  try simp only [Act.put, List.setIfInBounds_toArray, List.set_cons_zero, List.set_cons_succ]
  refine wpAnyH_take (i := 3) (v := ?vv3_1) rfl (by kernel_rfl) (by kernel_rfl) (by kernel_rfl) (fun _ _ _ h => h) (Or.inl ⟨by rfl, ?yy3_1⟩) (by assumption) ?rr3_1
  case yy3_1 => (intro w hSw; (try dsimp only at hSw); go_simp; (try with_reducible rfl))
  try simp only [Act.put, List.setIfInBounds_toArray, List.set_cons_zero, List.set_cons_succ]
  refine wpAnyH_take (i := 4) (v := ?vv4_1) rfl (by kernel_rfl) (by kernel_rfl) (by kernel_rfl) (fun _ _ _ h => h) (Or.inl ⟨by rfl, ?yy4_1⟩) (by assumption) ?rr4_1
  case yy4_1 => (intro w hSw; (try dsimp only at hSw); go_simp; (try with_reducible rfl))
  try simp only [Act.put, List.setIfInBounds_toArray, List.set_cons_zero, List.set_cons_succ]
  refine wpAnyH_ready (rs := [5]) (by kernel_rfl) (by simp) (AllReadyH.cons rfl (fun K hK => ?_) AllReadyH.nil)
  go_simp
  refine (HC.out _ HR0.out.drew hB0 (by simp; omega)).mono ?_
  intro en w3 HD
  obtain ⟨rfl, HK3⟩ := HD.no hX
  have HKE := hid (HK0.out.drew.trans HK3.out)
  exact ⟨rfl, DRes.err hX HKE.out⟩
 ·have HX := hid hX
  clear hX
  obtain ⟨⟨z0, z1, z2, z3, z4⟩, z5, z6, z7, z8, z9⟩ := blk5 HRS0.out
  have hne1 : ¬ w.heap.size = w.heap.size + 1 := by omega
  have hlw : w.heap.size < W0.drew.heap.size := show w.heap.size < W0.heap.size by omega
  go_region_held3 (fun w' => w'.cell? ⟨w.heap.size, 0, none⟩ = some (.pointer (some ⟨b, 0, none⟩))) (go_keep) (first
   | (go_at_call 67; refine (HC.out W0.drew HR0.out.drew hB0 hlw).mono ?_; intro en w3 HD; obtain ⟨a3, l3, c3, rfl, HKd3, HR3, HK3⟩ := HD.yes HX.out; have ht3 := HK3.out.size; (try simp at ht3); have HRS3 := hid ((show Blk _ (w.heap.size + 1) [_, _, _, _, _] by repeat (with_reducible (first | exact HRS0.out | apply Blk.drew))).kp HK3.out (by omega)); obtain ⟨⟨u0, u1, u2, u3, u4⟩, u5, u6, u7, u8, u9⟩ := blk5 HRS3.out; have HKA3 := hid ((show Kp b w _ by repeat (with_reducible (first | exact HK0.out | apply Kp.drew))).trans HK3.out); have hB3 : w3.cell? ⟨w.heap.size, 0, none⟩ = some (.pointer (some ⟨b, 0, none⟩)) := (cell_kp hB0 (show Kp b W0 w3 from (Kp.refl b W0).drew.trans HK3.out) (by omega) (by omega)); have HY3 : Hid (Kids w3 (fun g => W0.heap.size ≤ g) (.slice a3 l3 c3) y.kids) := HKd3.out.weak (fun g hg _ => by (try simp at hg); omega)))
  all_goals go_wp2_with fail
  refine bodyPost_ret (v := .agg #[.int .i64 y.kind, .int .i64 y.pos, .string ⟨y.name.toArray⟩, .int .i64 y.num, .slice a3 l3 c3]) (by simp [results, Tryz.results34, go_sem, u0, u1, u2, u3, u4]) rfl ?_
  exact dres_fin (lo := W0.heap.size) y us HY3.out HR3.out HKA3.out HX.out (by omega) (by omega) (by omega) _ _ _ _ rfl rfl rfl rfl _ _ _ _ _

theorem dtyp_face  (X : Sy.R Sy.Tr) (w : World) (b e dd : Nat) (z : Sy.Env) (ts : List Lx.Tk) (h : Dr w b z ts e dd)
  (hcall : ∀ W : World, Dr W b z ts e dd → W.cell? ⟨w.heap.size, 0, none⟩ = some (.pointer (some ⟨b, 0, none⟩)) → w.heap.size < W.heap.size →
   Calls Tryz.prog 67 #[.pointer (some ⟨b, 0, none⟩), .pointer (some ⟨b, 5, none⟩), .func (Fn.func 99) #[] #[.pointer (some ⟨w.heap.size, 0, none⟩)]] W fun en w' => DRes W b z X e dd en w') :
  Calls Tryz.prog 63 #[.pointer (some ⟨b, 0, none⟩)] w fun en w' => DRes w b z X e dd en w' := by
 have hmf : ∀ (fn : Fn) (first cap : Array Value) (w : World), (Instr.makeFunc fn first cap).run Tryz.prog w = .ok (.func fn first cap) w := fun _ _ _ _ => rfl
 have H := hid h
 have HC := hid hcall
 have hbR : b < w.heap.size := h.lt
 clear h hcall
 have hb0 : ¬ b = w.heap.size := by omega
 obtain ⟨W0, hW0⟩ : ∃ W0, (w.alloc (.cells #[.pointer (some ⟨b, 0, none⟩)] 36)).alloc (.cells #[.int .i64 0, .int .i64 0, .string ⟨#[]⟩, .int .i64 0, .slice none 0 0] 24) = W0 := ⟨_, rfl⟩
 have hz0 : W0.heap.size = w.heap.size + 2 := by rw [← hW0]; simp
 have HR0 : Hid (Dr W0 b z ts e dd) := by rw [Hid, ← hW0]; exact (H.out.alloc _).alloc _
 have HK0 : Hid (Kp b w W0) := by rw [Hid, ← hW0]; exact ((Kp.refl b w).alloc _).alloc _
 have hB0 : W0.cell? ⟨w.heap.size, 0, none⟩ = some (.pointer (some ⟨b, 0, none⟩)) := by
  have h1 := ((Blk.new w [.pointer (some ⟨b, 0, none⟩)] 36).alloc (.cells #[.int .i64 0, .int .i64 0, .string ⟨#[]⟩, .int .i64 0, .slice none 0 0] 24) 0 _ rfl).1
  rw [← hW0]
  exact h1
 have HRS0 : Hid (Blk W0 (w.heap.size + 1) [.int .i64 0, .int .i64 0, .string ⟨#[]⟩, .int .i64 0, .slice none 0 0]) := by
  have h1 := Blk.new (w.alloc (.cells #[.pointer (some ⟨b, 0, none⟩)] 36)) [.int .i64 0, .int .i64 0, .string ⟨#[]⟩, .int .i64 0, .slice none 0 0] 24
  rw [show (w.alloc (.cells #[.pointer (some ⟨b, 0, none⟩)] 36)).heap.size = w.heap.size + 1 by simp] at h1
  rw [Hid, ← hW0]
  exact h1
 have HW0 := hid hW0
 clear hW0
 go_enter Tryz.func63, Tryz.ntmps63
 go_wp2_with fail
 try rw [HW0.out]
 rcases hX : X with f | ⟨y, us⟩
 ·refine wp_region_held_drew (S := (fun w' => w'.cell? ⟨w.heap.size, 0, none⟩ = some (.pointer (some ⟨b, 0, none⟩)))) (by kernel_rfl) (by first | trivial | (dsimp only; go_keep)) (fun hHeld => ?_)
  refine wpAnyH_take (i := 0) (v := ?vv0_2) rfl (by kernel_rfl) (by kernel_rfl) (by kernel_rfl) (fun _ _ _ h => h) (Or.inl ⟨by rfl, ?yy0_2⟩) (by assumption) ?rr0_2
  case yy0_2 => (intro w hSw; (try dsimp only at hSw); go_simp; (try with_reducible rfl))
  try simp only [Act.put, List.setIfInBounds_toArray, List.set_cons_zero, List.set_cons_succ]
  refine wpAnyH_take (i := 1) (v := ?vv1_2) rfl (by kernel_rfl) (by kernel_rfl) (by kernel_rfl) (fun _ _ _ h => h) (Or.inl ⟨by rfl, ?yy1_2⟩) (by assumption) ?rr1_2
  case yy1_2 => (intro w hSw; (try dsimp only at hSw); go_simp; (try with_reducible rfl))
  try simp only [Act.put, List.setIfInBounds_toArray, List.set_cons_zero, List.set_cons_succ]
  refine wpAnyH_take (i := 2) (v := ?vv2_2) rfl (by kernel_rfl) (by kernel_rfl) (by kernel_rfl) (fun _ _ _ h => h) (Or.inl ⟨by rfl, ?yy2_2⟩) (by assumption) ?rr2_2
  case yy2_2 => (intro w hSw; (try dsimp only at hSw); go_simp; (try with_reducible rfl))
  try simp only [Act.put, List.setIfInBounds_toArray, List.set_cons_zero, List.set_cons_succ]
  refine wpAnyH_take (i := 3) (v := ?vv3_2) rfl (by kernel_rfl) (by kernel_rfl) (by kernel_rfl) (fun _ _ _ h => h) (Or.inl ⟨by rfl, ?yy3_2⟩) (by assumption) ?rr3_2
  case yy3_2 => (intro w hSw; (try dsimp only at hSw); go_simp; (try with_reducible rfl))
  try simp only [Act.put, List.setIfInBounds_toArray, List.set_cons_zero, List.set_cons_succ]
  refine wpAnyH_take (i := 4) (v := ?vv4_2) rfl (by kernel_rfl) (by kernel_rfl) (by kernel_rfl) (fun _ _ _ h => h) (Or.inl ⟨by rfl, ?yy4_2⟩) (by assumption) ?rr4_2
  case yy4_2 => (intro w hSw; (try dsimp only at hSw); go_simp; (try with_reducible rfl))
  try simp only [Act.put, List.setIfInBounds_toArray, List.set_cons_zero, List.set_cons_succ]
  refine wpAnyH_ready (rs := [5]) (by kernel_rfl) (by simp) (AllReadyH.cons rfl (fun K hK => ?_) AllReadyH.nil)
  go_simp
  refine (HC.out _ HR0.out.drew hB0 (by simp; omega)).mono ?_
  intro en w3 HD
  obtain ⟨rfl, HK3⟩ := HD.no hX
  have HKE := hid (HK0.out.drew.trans HK3.out)
  exact ⟨rfl, DRes.err hX HKE.out⟩
 ·have HX := hid hX
  clear hX
  obtain ⟨⟨z0, z1, z2, z3, z4⟩, z5, z6, z7, z8, z9⟩ := blk5 HRS0.out
  have hne1 : ¬ w.heap.size = w.heap.size + 1 := by omega
  have hlw : w.heap.size < W0.drew.heap.size := show w.heap.size < W0.heap.size by omega
  go_region_held3 (fun w' => w'.cell? ⟨w.heap.size, 0, none⟩ = some (.pointer (some ⟨b, 0, none⟩))) (go_keep) (first
   | (go_at_call 67; refine (HC.out W0.drew HR0.out.drew hB0 hlw).mono ?_; intro en w3 HD; obtain ⟨a3, l3, c3, rfl, HKd3, HR3, HK3⟩ := HD.yes HX.out; have ht3 := HK3.out.size; (try simp at ht3); have HRS3 := hid ((show Blk _ (w.heap.size + 1) [_, _, _, _, _] by repeat (with_reducible (first | exact HRS0.out | apply Blk.drew))).kp HK3.out (by omega)); obtain ⟨⟨u0, u1, u2, u3, u4⟩, u5, u6, u7, u8, u9⟩ := blk5 HRS3.out; have HKA3 := hid ((show Kp b w _ by repeat (with_reducible (first | exact HK0.out | apply Kp.drew))).trans HK3.out); have hB3 : w3.cell? ⟨w.heap.size, 0, none⟩ = some (.pointer (some ⟨b, 0, none⟩)) := (cell_kp hB0 (show Kp b W0 w3 from (Kp.refl b W0).drew.trans HK3.out) (by omega) (by omega)); have HY3 : Hid (Kids w3 (fun g => W0.heap.size ≤ g) (.slice a3 l3 c3) y.kids) := HKd3.out.weak (fun g hg _ => by (try simp at hg); omega)))
  all_goals go_wp2_with fail
  refine bodyPost_ret (v := .agg #[.int .i64 y.kind, .int .i64 y.pos, .string ⟨y.name.toArray⟩, .int .i64 y.num, .slice a3 l3 c3]) (by simp [results, Tryz.results63, go_sem, u0, u1, u2, u3, u4]) rfl ?_
  exact dres_fin (lo := W0.heap.size) y us HY3.out HR3.out HKA3.out HX.out (by omega) (by omega) (by omega) _ _ _ _ rfl rfl rfl rfl _ _ _ _ _

theorem dexprs (N d : Nat) (hN : N ≤ 90000) (z : Sy.Env) : ∀ k, k ≤ 200 → EOK N (200 - k) d z (Sy.exprB z N k) := by
 intro k
 induction k with
 | zero =>
  intro _
  refine ⟨fun n ts h => le_expr _ ts h, fun w b ts h hn => ?_⟩
  refine dexpr_face _ w b _ d z ts h (fun W hD hB hBl => ?_)
  exact dwithinDeepE W b _ d z ts _ rfl hD
 | succ k ih =>
  intro hk
  refine ⟨fun n ts h => le_expr _ ts h, fun w b ts h hn => ?_⟩
  have hE := ih (by omega)
  obtain ⟨ee, he⟩ : ∃ ee, 200 - (k + 1) = ee := ⟨_, rfl⟩
  have he2 : 200 - k = ee + 1 := by omega
  rw [he] at h ⊢
  rw [he2] at hE
  have hbR : b < w.heap.size := h.lt
  refine dexpr_face _ w b ee d z ts h (fun W hD hB hBl => ?_)
  exact dwithinE N W b w.heap.size ee d z ts _ (by omega) hD hB hBl (by omega) (fun W2 hD2 hB2 hBl2 => dany N (ee + 1) d hN z _ hE W2 b w.heap.size ts hD2 hn hB2 hBl2 (by omega))


open Go.RowKit

structure Rx (w : World) (b lo : Nat) (z : Sy.Env) (ts : List Lx.Tk) (e d : Nat) (v : Value) (ls : List (Sy.Tr × Value)) (W : World) : Prop where
 row : RowS W lo v ls
 rd : Dr W b z ts e d
 kp : Kp b w W
 size : lo ≤ W.heap.size
section
variable {w W W' : World} {b lo e d : Nat} {z : Sy.Env} {ts us : List Lx.Tk} {v : Value} {ls : List (Sy.Tr × Value)}
theorem Rx.step (h : Rx w b lo z ts e d v ls W) (hr : Dr W' b z us e d) (hk : Kp b W W') (h3 : b < lo) : Rx w b lo z us e d v ls W' :=
 ⟨h.row.kp hk h3, hr, h.kp.trans hk, Nat.le_trans h.size hk.size⟩
theorem Rx.past (h : Rx w b lo z ts e d v ls W) (hk : Below W.heap.size W W') : Rx w b lo z ts e d v ls W' :=
 ⟨h.row.past hk, h.rd.below hk, h.kp.below hk, Nat.le_trans h.size hk.size⟩
theorem Rx.alloc (h : Rx w b lo z ts e d v ls W) (o : Obj) : Rx w b lo z ts e d v ls (W.alloc o) := h.past ((Below.refl _ _).alloc (Nat.le_refl _) o)
theorem Rx.app {g cap : Nat} {T : Sy.Tr} {kv : Value} (h : Rx w b lo z ts e d v ls W) (hb : b < lo) (hw : w.heap.size ≤ lo)
  (ho : W'.ownsRow lo 24 5 (.slice (some ⟨g, 0, none⟩) (ls.length + 1) cap) (ls.length + 1) (rowCells ls ++ nodeCells T kv)) (hg : W.grownBy W' v.ownBlock) (hat : v.ownBlock = some g ∨ g = W.heap.size) (hk : Kids W (Fo lo v) kv T.kids) :
  Rx w b lo z ts e d (.slice (some ⟨g, 0, none⟩) (ls.length + 1) cap) (ls ++ [(T, kv)]) W' := by
 obtain ⟨h4, h8, h9, h10⟩ := h
 have hne : ∀ q, q < lo → some q ≠ v.ownBlock := fun q hq e0 => by
  have := (h4.own.lt q e0.symm).1
  omega
 exact ⟨h4.app ho hg hat hk, h8.grown hg (fun q hq => hne q (by omega)), h9.grown hg (fun q hq => hne q (by omega)), Nat.le_trans h10 hg.size⟩
end
namespace Sy
def rowAll (z : Env) (N : Nat) (ts : List Lx.Tk) : R (List Tr) := bnd (needB z s_lb ts) fun _ ts => bnd (rowB z N [] ts) fun l ts => bnd (needB z s_rb ts) fun _ ts => .ok (l, ts)
end Sy
def RwRes (w : World) (b : Nat) (z : Sy.Env) (N : Nat) (x : Sy.R (List Sy.Tr)) (e d : Nat) (en : Ending) (w' : World) : Prop :=
 match x with
 | .ok (l, ts) => ∃ g cap ls, en = .returned (.slice (some ⟨g, 0, none⟩) ls.length cap) ∧ l = ls.map (·.1) ∧ ls ≠ [] ∧ ls.length ≤ N ∧ Hid (RowS w' w.heap.size (.slice (some ⟨g, 0, none⟩) ls.length cap) ls) ∧ Hid (Dr w' b z ts e d) ∧ Hid (Kp b w w')
 | .error f => Refuses f en ∧ Hid (Kp b w w')
section
variable {w : World} {b : Nat} {z : Sy.Env} {N : Nat} {x : Sy.R (List Sy.Tr)} {e d : Nat} {en : Ending} {w' : World}
theorem RwRes.yes (h : RwRes w b z N x e d en w') {l : List Sy.Tr} {ts : List Lx.Tk} (hx : x = .ok (l, ts)) :
  ∃ g cap ls, en = .returned (.slice (some ⟨g, 0, none⟩) ls.length cap) ∧ l = ls.map (·.1) ∧ ls ≠ [] ∧ ls.length ≤ N ∧ Hid (RowS w' w.heap.size (.slice (some ⟨g, 0, none⟩) ls.length cap) ls) ∧ Hid (Dr w' b z ts e d) ∧ Hid (Kp b w w') := by subst hx; exact h
theorem RwRes.no (h : RwRes w b z N x e d en w') {f : Nat × Nat} (hx : x = .error f) : en = .panicked [{ v := refV f, recovered := false }] ∧ Hid (Kp b w w') := by subst hx; exact h
theorem RwRes.err {f : Nat × Nat} (hx : x = .error f) (h2 : Kp b w w') : RwRes w b z N x e d (.panicked [{ v := refV f, recovered := false }]) w' := by subst hx; exact ⟨rfl, h2⟩
end

theorem drow (N e d : Nat) (hN : N ≤ 90000) (z : Sy.Env) (w : World) (b : Nat) (ts : List Lx.Tk) (h : Dr w b z ts e d) (hn : ts.length < N) :
  Calls Tryz.prog 101 #[.pointer (some ⟨b, 0, none⟩)] w fun en w' => RwRes w b z N (Sy.rowAll z N ts) e d en w' := by
 obtain ⟨i0, hi, hiz0, hiz1, hiz2⟩ := info_parts Tryz.info36
 have H := hid h
 have hbR : b < w.heap.size := h.lt
 clear h
 go_enter Tryz.func101, Tryz.ntmps101
 go_wp2_with fail
 refine (dneed _ b z ts e d Sy.s_lb (by decide) (by repeat (with_reducible (first | exact H.out | apply Dr.drew)))).mono ?_
 intro en w1 HD
 rcases hx1 : Sy.needB z Sy.s_lb ts with f1 | ⟨u1, ts1⟩
 ·obtain ⟨rfl, HK1⟩ := HD.no hx1
  have HKE := hid ((show Kp b w _ by repeat (with_reducible (first | exact (Kp.refl b w) | apply Kp.drew))).trans HK1.out)
  go_wp2_with fail
  exact ⟨rfl, RwRes.err (by simp [Sy.rowAll, Sy.iteB_takes, Sy.bnd, hx1]) HKE.out⟩
 have H1 := hid hx1
 have hn1 : ts1.length < N := Nat.lt_of_le_of_lt (le_need (Nat.le_refl _) _ _ hx1) hn
 obtain ⟨rfl, HR1, HK1⟩ := HD.yes hx1
 clear hx1 HD
 have ht1 := HK1.out.size
 have HKA1 := hid ((show Kp b w _ by repeat (with_reducible (first | exact (Kp.refl b w) | apply Kp.drew))).trans HK1.out)
 obtain ⟨N2, hN2⟩ : ∃ N2, N = N2 + 1 := ⟨N - 1, by omega⟩
 have HN2 := hid hN2
 clear hN2
 go_wp2_with fail
 refine (dnamed _ b z ts1 e d (by repeat (with_reducible (first | exact HR1.out | apply Dr.drew)))).mono ?_
 intro en w2 HD
 rcases hx2 : Sy.namedB z ts1 with f2 | ⟨y2, ts2⟩
 ·obtain ⟨rfl, HK2⟩ := HD.no hx2
  have HKE := hid ((show Kp b w _ by repeat (with_reducible (first | exact HKA1.out | apply Kp.drew))).trans HK2.out)
  go_wp2_with fail
  exact ⟨rfl, RwRes.err (by simp [Sy.rowAll, Sy.rowB, Sy.iteB_takes, Sy.bnd, H1.out, HN2.out, hx2]) HKE.out⟩
 have H2 := hid hx2
 have hn2 : ts2.length < N := Nat.lt_of_le_of_lt (le_named (Nat.le_refl _) _ _ hx2) hn1
 obtain ⟨a2, l2, c2, rfl, HKd2, HR2, HK2⟩ := HD.yes hx2
 clear hx2 HD
 have ht2 := HK2.out.size
 have HKA2 := hid ((show Kp b w _ by repeat (with_reducible (first | exact HKA1.out | apply Kp.drew))).trans HK2.out)
 have HX0 : Hid (Rx w b w.heap.size z ts2 e d (.slice (some ⟨w2.heap.size, 0, none⟩) 1 1) [(y2, (.slice a2 l2 c2 : Value))] (w2.alloc (.cells #[.int .i64 y2.kind, .int .i64 y2.pos, .string ⟨y2.name.toArray⟩, .int .i64 y2.num, .slice a2 l2 c2] 24))) := ⟨rowS_lit [(y2, (.slice a2 l2 c2 : Value))] (by simp) w2.heap.size rfl #[.int .i64 y2.kind, .int .i64 y2.pos, .string ⟨y2.name.toArray⟩, .int .i64 y2.num, .slice a2 l2 c2] rfl 1 rfl (by decide) (by omega) (by intro q hq; simp only [List.mem_cons, List.not_mem_nil, or_false] at hq; subst hq; exact HKd2.out.weak (fun g hg _ => Nat.le_trans (by omega) hg)), HR2.out.alloc _, HKA2.out.alloc _, by simp; omega⟩
 have HE0 : Hid (Sy.iteB z Sy.s_comma ts2 (fun ts => Sy.rowB z N2 ([(y2, (.slice a2 l2 c2 : Value))].map (·.1)) ts) (fun ts => .ok ([(y2, (.slice a2 l2 c2 : Value))].map (·.1), ts)) = Sy.rowB z N [] ts1) := by rw [Hid, HN2.out]; simp [Sy.rowB, Sy.bnd, H2.out]
 have hls : ts2.length ≤ N2 := by have := HN2.out; omega
 go_wp2_with fail
 go_loopg [3] N2 (fun n v wr => ∃ (ls : List (Sy.Tr × Value)) (tr : List Lx.Tk), Hid (Rx w b w.heap.size z tr e d v ls wr) ∧ Hid (Sy.iteB z Sy.s_comma tr (fun ts => Sy.rowB z n (ls.map (·.1)) ts) (fun ts => .ok (ls.map (·.1), ts)) = Sy.rowB z N [] ts1) ∧ tr.length ≤ n ∧ tr.length < N ∧ ls.length + n = N ∧ ls ≠ [])
 case atStart => exact ⟨[(y2, (.slice a2 l2 c2 : Value))], ts2, HX0, HE0, hls, hn2, by have := HN2.out; simp; omega, by simp⟩
 case round =>
  obtain ⟨ls, tr, HXr, HE, hM, hnr, hlen, hls0⟩ := hrel
  have hzr := HXr.out.size
  have HLB := hid (len_bytes (n := ls.length) (N := N + 3) (by omega) (by omega))
  go_wp2_with fail
  refine (dtakes _ b z tr e d Sy.s_comma (by decide) HXr.out.rd).mono ?_
  intro en wt HD
  rcases hxt : Sy.takesB z Sy.s_comma tr with ft | ⟨vt, tt⟩
  ·obtain ⟨rfl, HKt⟩ := HD.no hxt
   have HKE := hid (HXr.out.kp.trans HKt.out)
   have HSQ : Hid (Sy.rowB z N [] ts1 = .error ft) := by rw [Hid, ← HE.out, Sy.iteB_takes]; simp [Sy.bnd, hxt]
   go_wp2_with fail
   exact ⟨rfl, RwRes.err (by simp [Sy.rowAll, Sy.bnd, H1.out, HSQ.out]) HKE.out⟩
  have HT := hid hxt
  obtain ⟨rfl, HRt, HKt⟩ := HD.yes hxt
  clear hxt HD
  have htt := HKt.out.size
  have hnt : tt.length < N := Nat.lt_of_le_of_lt (le_takes (Nat.le_refl _) _ _ HT.out) hnr
  have HX := hid (HXr.out.step HRt.out HKt.out (by omega))
  cases vt with
  | true =>
   have hlt := lt_takes (by decide) HT.out
   obtain ⟨m, hm⟩ : ∃ m, gk = m + 1 := ⟨gk - 1, by omega⟩
   subst hm
   go_wp2_with fail
   refine (dnamed _ b z tt e d HX.out.rd).mono ?_
   intro en w8 HD
   rcases hx8 : Sy.namedB z tt with f8 | ⟨y8, ts8⟩
   ·obtain ⟨rfl, HK8⟩ := HD.no hx8
    have HKE := hid (HX.out.kp.trans HK8.out)
    have HSQ : Hid (Sy.rowB z N [] ts1 = .error f8) := by rw [Hid, ← HE.out, Sy.iteB_takes]; simp [Sy.bnd, HT.out, Sy.rowB, hx8]
    go_wp2_with fail
    exact ⟨rfl, RwRes.err (by simp [Sy.rowAll, Sy.bnd, H1.out, HSQ.out]) HKE.out⟩
   have H8 := hid hx8
   have hle8 := le_named (Nat.le_refl _) _ _ hx8
   obtain ⟨a8, l8, c8, rfl, HKd8, HR8, HK8⟩ := HD.yes hx8
   clear hx8 HD
   have ht8 := HK8.out.size
   have HXS := hid (HX.out.step HR8.out HK8.out (by omega))
   have HXA := hid (HXS.out.alloc (.cells #[.int .i64 y8.kind, .int .i64 y8.pos, .string ⟨y8.name.toArray⟩, .int .i64 y8.num, .slice a8 l8 c8] 24))
   have HNW := hid (node_news (w := w8) (T := y8) (a := a8) (l := l8) (c := c8) (ty := 24) (H := w8.heap.size) rfl)
   go_wp2_with (at_builtin; go_must (refine wpList_append_lies _ rfl _ _ 22 rfl w.heap.size 24 i0 (.agg #[.int .i64 0, .int .i64 0, .string ⟨#[]⟩, .int .i64 0, .slice none 0 0]) 5 64 Tryz.underlying22 hi hiz0 hiz1 hiz2 rfl (by decide) u3 ls.length (rowCells ls) rfl HXA.out.row.own ⟨w8.heap.size, 0, none⟩ 1 1 (nodeCells y8 (.slice a8 l8 c8)) rfl rfl HNW.out (node_one _ _ _ _) (by decide) HLB.out.1 HLB.out.2 HXA.out.size _ rfl ?_); intro ga capa w9 hown hgrow hat hlt9)
   have HKT : Hid (Kids (w8.alloc (.cells #[.int .i64 y8.kind, .int .i64 y8.pos, .string ⟨y8.name.toArray⟩, .int .i64 y8.num, .slice a8 l8 c8] 24)) (Fo w.heap.size u3) (.slice a8 l8 c8) y8.kids) := by
    refine (HKd8.out.weak (fun q hq hlt2 => ⟨by omega, ?_⟩)).pastF ((Below.refl _ _).alloc (Nat.le_refl _) _)
    intro e0
    have h1 := (HX.out.row.own.lt q e0.symm).2
    omega
   have HX2 := hid (HXA.out.app (by omega) (by omega) hown hgrow hat HKT.out)
   have HE2 : Hid (Sy.iteB z Sy.s_comma ts8 (fun ts => Sy.rowB z m ((ls ++ [(y8, (.slice a8 l8 c8 : Value))]).map (·.1)) ts) (fun ts => .ok ((ls ++ [(y8, (.slice a8 l8 c8 : Value))]).map (·.1), ts)) = Sy.rowB z N [] ts1) := by rw [Hid, ← HE.out, Sy.iteB_takes z Sy.s_comma tr]; simp [Sy.bnd, HT.out, Sy.rowB, H8.out]
   go_roundg m
   case measure => omega
   case rel => exact ⟨_, _, HX2, HE2, by omega, by omega, by simp; omega, by simp⟩
  | false =>
   have HSQ : Hid (Sy.rowB z N [] ts1 = .ok (ls.map (·.1), tt)) := by rw [Hid, ← HE.out, Sy.iteB_takes]; simp [Sy.bnd, HT.out]
   go_wp2_with fail
   refine (dneed _ b z tt e d Sy.s_rb (by decide) HX.out.rd).mono ?_
   intro en wn HD
   rcases hxn : Sy.needB z Sy.s_rb tt with fn | ⟨un, tn⟩
   ·obtain ⟨rfl, HKn⟩ := HD.no hxn
    have HKE := hid (HX.out.kp.trans HKn.out)
    go_wp2_with fail
    exact ⟨rfl, RwRes.err (by simp [Sy.rowAll, Sy.bnd, H1.out, HSQ.out, hxn]) HKE.out⟩
   have HNN := hid hxn
   obtain ⟨rfl, HRn, HKn⟩ := HD.yes hxn
   clear hxn HD
   have htn := HKn.out.size
   have HX3 := hid (HX.out.step HRn.out HKn.out (by omega))
   obtain ⟨gf, cf, hvf⟩ := HX3.out.row.form hls0
   subst hvf
   go_wp2_with fail
   refine bodyPost_ret (v := .slice (some ⟨gf, 0, none⟩) ls.length cf) (by simp [results, Tryz.results101, go_sem]) rfl ?_
   have hx : Sy.rowAll z N ts = .ok (ls.map (·.1), tn) := by simp [Sy.rowAll, Sy.bnd, H1.out, HSQ.out, HNN.out]
   rw [hx]
   exact ⟨gf, cf, ls, rfl, rfl, hls0, by omega, HX3.out.row, HX3.out.rd, HX3.out.kp⟩
end Go.Proofs.YtoajnlhegallpaaGreatDoor
