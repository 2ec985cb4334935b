/-
  What Parse's deferred closure does.
  What the program's Parse answers, for every text.
-/
import Derived.Test.YtoajnlhegallpaaGreatDoorMEd
import Derived.Defers
import Derived.Recover
import Derived.Test.YtoajnlhegallpaaGreatDoorMEe
set_option linter.unusedVariables false
set_option linter.unusedSimpArgs false
set_option maxRecDepth 100000
set_option maxHeartbeats 2000000
namespace Go.Proofs.YtoajnlhegallpaaGreatDoor
open Go.RowKit

theorem catch_idle (p q : Addr) (w : World) :
  CallsD Tryz.prog 12 #[.pointer (some p), .pointer (some q)] .returning w fun e u' w' => e = .returned (.tuple #[]) ∧ u' = .returning ∧ w' = w := by
 have hq : ∀ w : World, (binOp .eql 20 .nilIface .nilIface).run Tryz.prog w = .ok (.bool true) w := fun w => by rfl
 refine callsD_of_wpS Tryz.func12 rfl fun c₀ cs hu => ?_
 apply wpS_seq
 apply wpS_region
 simp [wpOpsS, go_sem, recoverD, hu, Tryz.ntmps12, Exit.thenS]
 refine wpS_of_wp ?_
 go_wp2
 cases c₀
 simp_all [bodyPostS, results, Tryz.results12]
theorem catch_panicking (b : Nat) (f : Nat × Nat) (w : World) (vs : List Value) (hv : vs.length = 5) (h0 : Blk w b vs) (us : List Value) (hus : us.length = 2) (h1 : Blk w (b + 1) us) :
  CallsD Tryz.prog 12 #[.pointer (some ⟨b, 0, none⟩), .pointer (some ⟨b + 1, 0, none⟩)] (.panicking [{ v := refV f, recovered := false }]) w fun e u' w' =>
   e = .returned (.tuple #[]) ∧ u' = .panicking [{ v := refV f, recovered := true }] ∧
   Hid (Blk w' b [.int .i64 0, .int .i64 0, .string ⟨#[]⟩, .int .i64 0, .slice none 0 0]) ∧ Hid (Blk w' (b + 1) [.int .i64 f.1, .int .i64 f.2]) ∧ Hid (Below b w w') := by
 have hta : ∀ (x : Value) (w : World), (Instr.typeAssert (.iface 35 x) 20 35 true).run Tryz.prog w = .ok (.tuple #[x, .bool true]) w := fun x w => by rfl
 obtain ⟨v0, v1, v2, v3, v4, rfl⟩ : ∃ v0 v1 v2 v3 v4, vs = [v0, v1, v2, v3, v4] := by
  match vs, hv with
  | [v0, v1, v2, v3, v4], _ => exact ⟨_, _, _, _, _, rfl⟩
 obtain ⟨u0, u1, rfl⟩ : ∃ u0 u1, us = [u0, u1] := by
  match us, hus with
  | [u0, u1], _ => exact ⟨_, _, rfl⟩
 have H0 := hid h0
 have H1 := hid h1
 have hb0 := h0.lt
 have hb1 := h1.lt
 have c0 := h0 0 _ rfl
 have c1 := h0 1 _ rfl
 have c2 := h0 2 _ rfl
 have c3 := h0 3 _ rfl
 have c4 := h0 4 _ rfl
 have d0 := h1 0 _ rfl
 have d1 := h1 1 _ rfl
 have hn0 : ¬ b = w.heap.size := by omega
 have hn1 : ¬ b + 1 = w.heap.size := by omega
 clear h0 h1
 refine callsD_of_wpS Tryz.func12 rfl fun c₀ cs hu => ?_
 apply wpS_seq
 apply wpS_region
 have hn2 : ¬ w.heap.size = b := by omega
 have hn3 : ¬ w.heap.size = b + 1 := by omega
 simp [wpOpsS, go_sem, recoverD, hu, Tryz.ntmps12, Exit.thenS, refV]
 refine wpS_of_wp ?_
 have ht : #[Value.pointer (some ⟨b, 0, none⟩), .pointer (some ⟨b + 1, 0, none⟩)] ++ (Array.replicate 12 undef).setIfInBounds 3 (.iface 35 (.agg #[.int .i64 f.1, .int .i64 f.2])) =
  #[Value.pointer (some ⟨b, 0, none⟩), .pointer (some ⟨b + 1, 0, none⟩), undef, undef, undef, .iface 35 (.agg #[.int .i64 f.1, .int .i64 f.2]), undef, undef, undef, undef, undef, undef, undef, undef] := rfl
 rw [ht]
 clear ht
 go_wp2
 go_region
 have e0 := ((((H0.out.set 0 (by simp) (.int .i64 0)).set 1 (by simp) (.int .i64 0)).set 2 (by simp) (.string ⟨#[]⟩)).set 3 (by simp) (.int .i64 0)).set 4 (by simp) (.slice none 0 0)
 have e1 := ((((H1.out.other (c := b) (by omega) 0 (.int .i64 0)).other (c := b) (by omega) 1 (.int .i64 0)).other (c := b) (by omega) 2 (.string ⟨#[]⟩)).other (c := b) (by omega) 3 (.int .i64 0)).other (c := b) (by omega) 4 (.slice none 0 0)
 have e2 := (e1.set 0 (by simp) (.int .i64 f.1)).set 1 (by simp) (.int .i64 f.2)
 have e3 := (e0.other (c := b + 1) (by omega) 0 (.int .i64 f.1)).other (c := b + 1) (by omega) 1 (.int .i64 f.2)
 refine ⟨rfl, _, rfl, .tuple #[], ?_, rfl, rfl, ?_, ?_, ?_⟩
 ·simp [results, Tryz.results12, go_sem]
 ·exact (e3.alloc _).drew
 ·exact (e2.alloc _).drew
 ·have h9 : Below b w w := Below.refl _ _
  show Below b w _
  repeat (with_reducible (first | exact h9 | apply Below.drew | refine Below.alloc ?_ (by simp; omega) _ | refine Below.setCell ?_ (by first | exact Nat.le_refl _ | exact Nat.le_succ _) _))

open Go.RowKit

theorem parse_err {z : Sy.Env} {N : Nat} {ts : List Lx.Tk} {f : Nat × Nat} (h : Sy.progB z N ts = .error f) : Sy.parseB z N ts = (Sy.zT, f) := by simp [Sy.parseB, h]
theorem parse_ok {z : Sy.Env} {N : Nat} {ts us : List Lx.Tk} {T : Sy.Tr} (h : Sy.progB z N ts = .ok (T, us)) : Sy.parseB z N ts = (T, (0, 0)) := by simp [Sy.parseB, h]

theorem in_parse {w w1 w2 : World} {b : Nat} {t1 t2 : TypeId} (hb : ((w.alloc (.cells #[.int .i64 0, .int .i64 0, .string ⟨#[]⟩, .int .i64 0, .slice none 0 0] t1)).alloc (.cells #[.int .i64 0, .int .i64 0] t2)).heap.size ≤ b)
  (hw : Below ((w.alloc (.cells #[.int .i64 0, .int .i64 0, .string ⟨#[]⟩, .int .i64 0, .slice none 0 0] t1)).alloc (.cells #[.int .i64 0, .int .i64 0] t2)).heap.size
   ((w.alloc (.cells #[.int .i64 0, .int .i64 0, .string ⟨#[]⟩, .int .i64 0, .slice none 0 0] t1)).alloc (.cells #[.int .i64 0, .int .i64 0] t2)) w1) (hk : Kp b w1 w2) :
  Blk w2 w.heap.size [.int .i64 0, .int .i64 0, .string ⟨#[]⟩, .int .i64 0, .slice none 0 0] ∧ Blk w2 (w.heap.size + 1) [.int .i64 0, .int .i64 0] ∧ Below w.heap.size w w2 ∧ w.heap.size + 2 ≤ w1.heap.size ∧ w1.heap.size ≤ w2.heap.size := by
 have hz := hw.size
 have hz2 := hk.size
 simp [Nat.add_one_le_iff] at hz hb
 have g1 : Blk ((w.alloc (.cells #[.int .i64 0, .int .i64 0, .string ⟨#[]⟩, .int .i64 0, .slice none 0 0] t1)).alloc (.cells #[.int .i64 0, .int .i64 0] t2)) w.heap.size [.int .i64 0, .int .i64 0, .string ⟨#[]⟩, .int .i64 0, .slice none 0 0] :=
  (Blk.new w [.int .i64 0, .int .i64 0, .string ⟨#[]⟩, .int .i64 0, .slice none 0 0] t1).alloc _
 have g2 := Blk.new (w.alloc (.cells #[.int .i64 0, .int .i64 0, .string ⟨#[]⟩, .int .i64 0, .slice none 0 0] t1)) [.int .i64 0, .int .i64 0] t2
 rw [show (w.alloc (.cells #[.int .i64 0, .int .i64 0, .string ⟨#[]⟩, .int .i64 0, .slice none 0 0] t1)).heap.size = w.heap.size + 1 by simp] at g2
 refine ⟨(g1.past hw).kp hk (by omega), (g2.past hw).kp hk (by omega), ?_, by omega, by omega⟩
 exact Kp.belowOf ((((Below.refl w.heap.size w).alloc (Nat.le_refl _) _).alloc (by simp) _).trans (hw.mono (by simp; omega))) hk (by omega)

theorem dparse (s : ByteArray) (w : World) (ev : Value) (hmax : s.size ≤ 140737488351232) (h2 : 2 < w.heap.size) (hv : w.cell? ⟨2, 0, none⟩ = some ev) (hev : ev = .nilIface ∨ ∃ te pe, ev = .iface te pe) :
  Calls Tryz.prog 6 #[.string s] w fun en w' => PRes w (Sy.parseB (rdEnv s) 4000 (rdTs s)) en w' := by
 have hmf : ∀ (fn : Fn) (first cap : Array Value) (w : World), (Instr.makeFunc fn first cap).run Tryz.prog w = .ok (.func fn first cap) w := fun _ _ _ _ => rfl
 have HN := hid (fun W (hW : Below w.heap.size w W) => dnewReader s W ev hmax (Nat.lt_of_lt_of_le h2 hW.size) ((World.cell?_of_block (a := ⟨2, 0, none⟩) (hW.block 2 h2)).trans hv) hev)
 have HP := hid (fun W b (h : Dr W b (rdEnv s) (rdTs s) 0 0) => dprogram 4000 (by omega) (rdEnv s) (dexprs 4000 0 (by omega) (rdEnv s) 200 (by omega)) (dtyps 4000 0 (by omega) (rdEnv s) 200 (by omega)) W b (rdTs s) h (by have := rd_len s; omega))
 rcases hx : Sy.progB (rdEnv s) 4000 (rdTs s) with f | ⟨T, us⟩
 ·have HX := hid hx
  rw [parse_err hx]
  clear hx
  go_enter_defers Tryz.func6, Tryz.ntmps6
  go_wp2_with (first
   | (go_at_call 13; refine (HN.out _ (((Below.refl _ _).alloc (Nat.le_refl _) _).alloc (by simp) _)).mono ?_; rintro en w1 ⟨b, rfl, HB1, HD1, HW1⟩)
   | (go_at_call 14; refine (HP.out _ b HD1.out).mono ?_; intro en w2 HR; rw [HX.out] at HR; obtain ⟨rfl, HK⟩ := HR))
  obtain ⟨g0, g1, gB, gz, gz2⟩ := in_parse HB1.out HW1.out HK.out
  refine leaves_cons (f := 12) (args := #[.pointer (some ⟨w.heap.size, 0, none⟩), .pointer (some ⟨w.heap.size + 1, 0, none⟩)]) (by simp) (by simp [go_sem]) ?_
  refine (catch_panicking w.heap.size f w2 _ rfl g0 _ rfl g1).mono ?_
  rintro e u' w'' ⟨rfl, rfl, HE0, HE1, HE2⟩
  have c0 := (HE0.out 0 _ rfl).1
  have c1 := (HE0.out 1 _ rfl).1
  have c2 := (HE0.out 2 _ rfl).1
  have c3 := (HE0.out 3 _ rfl).1
  have c4 := (HE0.out 4 _ rfl).1
  have d0 := (HE1.out 0 _ rfl).1
  have d1 := (HE1.out 1 _ rfl).1
  have hr : Hid (PRes w (Sy.zT, f) (.returned (.tuple #[.agg #[.int .i64 0, .int .i64 0, .string ⟨#[]⟩, .int .i64 0, .slice none 0 0], .agg #[.int .i64 f.1, .int .i64 f.2]])) w'') := ⟨none, 0, 0, rfl, .nil, gB.trans HE2.out⟩
  clear g0 g1
  refine ⟨_, ?_, hr.out⟩
  simp [results, Tryz.results6, go_sem, c0, c1, c2, c3, c4, d0, d1]
 ·have HX := hid hx
  rw [parse_ok hx]
  clear hx
  go_enter_defers Tryz.func6, Tryz.ntmps6
  go_wp2_with (first
   | (go_at_call 13; refine (HN.out _ (((Below.refl _ _).alloc (Nat.le_refl _) _).alloc (by simp) _)).mono ?_; rintro en w1 ⟨b, rfl, HB1, HD1, HW1⟩)
   | (go_at_call 14; refine (HP.out _ b HD1.out).mono ?_; intro en w2 HR; rw [HX.out] at HR; obtain ⟨a, l, c, rfl, HKD, HK⟩ := HR; obtain ⟨g0, g1, gB, gz, gz2⟩ := in_parse HB1.out HW1.out HK.out; have G0 := hid g0; have G1 := hid g1; have GB := hid gB; have c0 := g0 0 _ rfl; have c1 := g0 1 _ rfl; have c2 := g0 2 _ rfl; have c3 := g0 3 _ rfl; have c4 := g0 4 _ rfl; have d0 := g1 0 _ rfl; have d1 := g1 1 _ rfl; clear g0 g1 gB))
  refine leaves_cons (f := 12) (args := #[.pointer (some ⟨w.heap.size, 0, none⟩), .pointer (some ⟨w.heap.size + 1, 0, none⟩)]) (by simp) (by simp [go_sem]) ?_
  refine (catch_idle ⟨w.heap.size, 0, none⟩ ⟨w.heap.size + 1, 0, none⟩ _).mono ?_
  rintro e u' w'' ⟨rfl, rfl, rfl⟩
  have e0 := G0.out.store (.int .i64 T.kind) (.int .i64 T.pos) (.string ⟨T.name.toArray⟩) (.int .i64 T.num) (.slice a l c)
  have e1 := ((((G1.out.other (c := w.heap.size) (by omega) 0 (.int .i64 T.kind)).other (c := w.heap.size) (by omega) 1 (.int .i64 T.pos)).other (c := w.heap.size) (by omega) 2 (.string ⟨T.name.toArray⟩)).other (c := w.heap.size) (by omega) 3 (.int .i64 T.num)).other (c := w.heap.size) (by omega) 4 (.slice a l c)
  have e2 := (e1.set 0 (by simp) (.int .i64 0)).set 1 (by simp) (.int .i64 0)
  have e3 := (e0.other (c := w.heap.size + 1) (by omega) 0 (.int .i64 0)).other (c := w.heap.size + 1) (by omega) 1 (.int .i64 0)
  have hB : Below w.heap.size w (((((((w2.setCell ⟨w.heap.size, 0, none⟩ (.int .i64 T.kind)).setCell ⟨w.heap.size, 1, none⟩ (.int .i64 T.pos)).setCell ⟨w.heap.size, 2, none⟩ (.string ⟨T.name.toArray⟩)).setCell ⟨w.heap.size, 3, none⟩ (.int .i64 T.num)).setCell ⟨w.heap.size, 4, none⟩ (.slice a l c)).setCell ⟨w.heap.size + 1, 0, none⟩ (.int .i64 0)).setCell ⟨w.heap.size + 1, 1, none⟩ (.int .i64 0)) := by
   have h9 := GB.out
   repeat (with_reducible (first | exact h9 | refine Below.setCell ?_ (by first | exact Nat.le_refl _ | exact Nat.le_succ _) _))
  have hK : Kids (((((((w2.setCell ⟨w.heap.size, 0, none⟩ (.int .i64 T.kind)).setCell ⟨w.heap.size, 1, none⟩ (.int .i64 T.pos)).setCell ⟨w.heap.size, 2, none⟩ (.string ⟨T.name.toArray⟩)).setCell ⟨w.heap.size, 3, none⟩ (.int .i64 T.num)).setCell ⟨w.heap.size, 4, none⟩ (.slice a l c)).setCell ⟨w.heap.size + 1, 0, none⟩ (.int .i64 0)).setCell ⟨w.heap.size + 1, 1, none⟩ (.int .i64 0)) (fun g => w.heap.size ≤ g) (.slice a l c) T.kids := by
   refine HKD.out.carry (fun g hg _ => ?_) (fun g hg _ => Nat.le_trans (by omega) hg)
   have k1 : g ≠ w.heap.size := by omega
   have k2 : g ≠ w.heap.size + 1 := by omega
   rw [Below.heap_setCell _ _ _ _ k2, Below.heap_setCell _ _ _ _ k2, Below.heap_setCell _ _ _ _ k1, Below.heap_setCell _ _ _ _ k1, Below.heap_setCell _ _ _ _ k1, Below.heap_setCell _ _ _ _ k1, Below.heap_setCell _ _ _ _ k1]
  generalize ((((((w2.setCell ⟨w.heap.size, 0, none⟩ (.int .i64 T.kind)).setCell ⟨w.heap.size, 1, none⟩ (.int .i64 T.pos)).setCell ⟨w.heap.size, 2, none⟩ (.string ⟨T.name.toArray⟩)).setCell ⟨w.heap.size, 3, none⟩ (.int .i64 T.num)).setCell ⟨w.heap.size, 4, none⟩ (.slice a l c)).setCell ⟨w.heap.size + 1, 0, none⟩ (.int .i64 0)).setCell ⟨w.heap.size + 1, 1, none⟩ (.int .i64 0) = W9 at *
  have a0 := (e3 0 _ rfl).1
  have a1 := (e3 1 _ rfl).1
  have a2 := (e3 2 _ rfl).1
  have a3 := (e3 3 _ rfl).1
  have a4 := (e3 4 _ rfl).1
  have b0 := (e2 0 _ rfl).1
  have b1 := (e2 1 _ rfl).1
  have hr : Hid (PRes w (T, (0, 0)) (.returned (.tuple #[.agg #[.int .i64 T.kind, .int .i64 T.pos, .string ⟨T.name.toArray⟩, .int .i64 T.num, .slice a l c], .agg #[.int .i64 0, .int .i64 0]])) W9) := ⟨a, l, c, rfl, hK, hB⟩
  refine ⟨_, ?_, hr.out⟩
  simp [results, Tryz.results6, go_sem, a0, a1, a2, a3, a4, b0, b1]
end Go.Proofs.YtoajnlhegallpaaGreatDoor
