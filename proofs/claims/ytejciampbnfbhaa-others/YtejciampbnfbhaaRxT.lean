import Derived.Test.YtejciampbnfbhaaRxS
set_option linter.unusedVariables false
set_option linter.unusedSimpArgs false
set_option maxRecDepth 100000
set_option maxHeartbeats 4000000
namespace Go.Proofs.Ytejciampbnfbhaa
open Go.RowKit
theorem toksF_len : ∀ (f pos : Nat) (l : List UInt8), (Lx.toksF f pos l).1.length ≤ l.length := by
 intro f
 induction f with
 | zero => intro pos l; simp [Lx.toksF]
 | succ f ih =>
  intro pos l
  cases l with
  | nil => simp [Lx.toksF]
  | cons c r =>
   simp only [Lx.toksF]
   split
   ·exact Nat.le_trans (ih _ _) (by simp)
   ·split
    ·rename_i h3
     have h4 := Lx.dropWhile_len c r h3; exact Nat.le_trans (ih _ _) (by simp only [List.length_cons]; omega)
    ·cases hT : Lx.tokAt pos (c :: r) with
     | error e => simp
     | ok x =>
      obtain ⟨t, n⟩ := x; have hp := Lx.tokAt_pos hT; have h5 := ih (pos + n) ((c :: r).drop n); simp only [Lx.tcons, List.length_cons, List.length_drop] at h5 hp ⊢; omega
def envOf (s : ByteArray) : Sy.Env := ⟨(Lx.toks s.size 0 s.data.toList).2, s.size⟩
def startOf (s : ByteArray) : Sy.RS := ⟨Sy.zTk, (Lx.toks s.size 0 s.data.toList).1, (0, 0)⟩
def treeOf (s : ByteArray) : Sy.Tr × (Nat × Nat) := if 3000 < s.size then (Sy.zT, (1, 0)) else Sy.parseA (envOf s) 4000 (startOf s)
theorem start_mu (s : ByteArray) (h : s.size ≤ 3000) : Sy.mu (Sy.nextA (envOf s) (startOf s)) < 4000 := by
 have h1 := toksF_len (s.data.toList.length + 1) 0 s.data.toList
 have h2 : (Lx.toks s.size 0 s.data.toList).1.length ≤ s.size := by
  have : s.data.toList.length = s.size := size_len s
  unfold Lx.toks
  omega
 unfold Sy.nextA startOf
 simp only [Sy.okA, beq_self_eq_true, if_true]
 generalize (Lx.toks s.size 0 s.data.toList).1 = l at *
 cases l with
 | nil =>
  simp only
  split
  ·simp [Sy.mu, Sy.okA, Sy.endTk]
  ·simp [Sy.mu, Sy.okA, Sy.zTk]
 | cons x r =>
  simp only [List.length_cons] at h2
  simp only [Sy.mu]
  split
  ·split <;> omega
  ·omega
def PRes (w : World) (x : Sy.Tr × (Nat × Nat)) (en : Ending) (w' : World) : Prop :=
 ∃ a l c, en = .returned (.tuple #[.agg #[.int .i64 x.1.kind, .int .i64 x.1.pos, .string ⟨x.1.name.toArray⟩, .int .i64 x.1.num, .slice a l c], .agg #[.int .i64 x.2.1, .int .i64 x.2.2]]) ∧
  Hid (Kids w' (fun g => w.heap.size ≤ g) (.slice a l c) x.1.kids) ∧ Hid (Below w.heap.size w w')
structure InP (w : World) (s : ByteArray) (W : World) : Prop where
 one : Blk W w.heap.size [.int .i64 0, .int .i64 0, .string ⟨#[]⟩, .int .i64 0, .slice none 0 0]
 two : Blk W (w.heap.size + 1) [.int .i64 0, .int .i64 0]
 rd : Rd W (w.heap.size + 1 + 1) s (envOf s) (startOf s) 0 0
 below : Below w.heap.size w W
 size : W.heap.size = w.heap.size + 3
theorem inPs (w : World) (s : ByteArray) (hs : s.size ≤ 3000) (t1 t2 t3 : TypeId) :
  ∃ W, ((w.alloc (.cells #[.int .i64 0, .int .i64 0, .string ⟨#[]⟩, .int .i64 0, .slice none 0 0] t1)).alloc (.cells #[.int .i64 0, .int .i64 0] t2)).alloc (.cells #[.string s, .int .i64 0, .int .i64 0, .string ⟨#[]⟩, .int .i64 0, .int .i64 0, .int .i64 0, .int .i64 0, .int .i64 0, .int .i64 0] t3) = W ∧ Hid (InP w s W) := by
 have e1 : (w.alloc (.cells #[.int .i64 0, .int .i64 0, .string ⟨#[]⟩, .int .i64 0, .slice none 0 0] t1)).heap.size = w.heap.size + 1 := by simp
 have e2 : ((w.alloc (.cells #[.int .i64 0, .int .i64 0, .string ⟨#[]⟩, .int .i64 0, .slice none 0 0] t1)).alloc (.cells #[.int .i64 0, .int .i64 0] t2)).heap.size = w.heap.size + 1 + 1 := by simp
 refine ⟨_, rfl, ?_, ?_, ?_, (((Below.refl _ _).alloc (Nat.le_refl _) _).alloc (by omega) _).alloc (by omega) _, by simp⟩
 ·exact ((Blk.new w [_, _, _, _, _] _).alloc _).alloc _
 ·have h := Blk.new (w.alloc (.cells #[.int .i64 0, .int .i64 0, .string ⟨#[]⟩, .int .i64 0, .slice none 0 0] t1)) [.int .i64 0, .int .i64 0] t2
  rw [e1] at h
  exact h.alloc _
 ·have h := Blk.new ((w.alloc (.cells #[.int .i64 0, .int .i64 0, .string ⟨#[]⟩, .int .i64 0, .slice none 0 0] t1)).alloc (.cells #[.int .i64 0, .int .i64 0] t2)) (rdVals s (startOf s) 0 0 0) t3
  rw [e2] at h
  exact ⟨hs, by simp [startOf, Sy.zTk], 0, h, Nat.zero_le _, fun _ => ⟨rfl, rfl, by rw [List.drop_zero]; rfl⟩⟩
theorem Kp.belowOf {b : Nat} {w W W' : World} (h : Below w.heap.size w W) (hk : Kp b W W') (hb : w.heap.size ≤ b) : Below w.heap.size w W' :=
 ⟨hk.os.trans h.os, hk.tape.trans h.tape, hk.output.trans h.output, Nat.le_trans h.size hk.size, fun i hi => (hk.block i (Nat.lt_of_lt_of_le hi h.size) (fun e => by have := Option.some.inj e; omega)).trans (h.block i hi)⟩
theorem rparse_any (s : ByteArray) (w : World) : Calls Try.prog 7 #[.string s] w fun en w' => PRes w (treeOf s) en w' := by
 by_cases hlong : 3000 < s.size
 ·have HA : Hid (treeOf s = (Sy.zT, (1, 0))) := by simp [Hid, treeOf, hlong]
  go_enter Try.func7, Try.ntmps7
  go_wp2_with fail
  refine bodyPost_ret (v := .tuple #[.agg #[.int .i64 0, .int .i64 0, .string ⟨#[]⟩, .int .i64 0, .slice none 0 0], .agg #[.int .i64 1, .int .i64 0]]) (by simp [results, Try.results7, go_sem]) rfl ?_
  rw [HA.out]
  exact ⟨none, 0, 0, rfl, .nil, ((Below.refl _ _).alloc (Nat.le_refl _) _).alloc (by simp) _⟩
 ·have HA : Hid (treeOf s = Sy.parseA (envOf s) 4000 (startOf s)) := by simp [Hid, treeOf, hlong]
  have HMU := hid (start_mu s (by omega))
  go_enter Try.func7, Try.ntmps7
  go_wp2_with fail
  obtain ⟨W0, hW0, HI⟩ := inPs w s (by omega) 35 28 43
  rw [hW0]
  clear hW0
  have hz0 := HI.out.size
  refine (next_m _ _ s (envOf s) (startOf s) 0 0 HI.out.rd).mono ?_
  rintro en w1 ⟨rfl, hr1, hk1⟩
  have HR1 := hid hr1
  have HK1 := hid hk1
  clear hr1 hk1
  have hz1 := HK1.out.size
  go_wp2_with fail
  refine (prog_m 4000 (by omega) w1 _ s (envOf s) _ HR1.out HMU.out).mono ?_
  rintro en w2 ⟨a2, l2, c2, rfl, HKd2, HR2, HK2⟩
  have HPA : Hid (treeOf s = (let n := Sy.progA (envOf s) 4000 (Sy.nextA (envOf s) (startOf s)); let u := if Sy.okA n.2 && n.2.t.kind != 0 then Sy.noA n.2 else n.2; if Sy.okA u then (n.1, (0, 0)) else (Sy.zT, u.f))) := by rw [Hid, HA.out]; rfl
  generalize hy : Sy.progA (envOf s) 4000 (Sy.nextA (envOf s) (startOf s)) = y at *
  clear hy
  simp only [] at HPA
  obtain ⟨W2, hW2, HV2, HRd2, HKp2, hs2, ht2⟩ := var_new HKd2.out HR2.out HK2.out 35
  have HKA := hid (HK1.out.trans HKp2.out)
  have HO1 := hid (HI.out.one.kp HKA.out (by omega))
  have HO2 := hid (HI.out.two.kp HKA.out (by omega))
  have HBL := hid (Kp.belowOf HI.out.below HKA.out (by omega))
  obtain ⟨⟨u0, u1, u2, u3, u4⟩, u5, u6, u7, u8, u9⟩ := blk5 HO1.out
  obtain ⟨e0, e1, e2, e3⟩ := blk2 HO2.out
  obtain ⟨⟨q0, q1, q2, q3, q4⟩, q5, q6, q7, q8, q9⟩ := blk5 HV2.out.cells
  go_wp2_with fail
  try rw [hW2]
  clear hW2
  refine (ok_q _ _ s (envOf s) y.2 0 0 HRd2.out).mono ?_
  rintro en w' ⟨rfl, rfl⟩
  cases ho : Sy.okA y.2 with
  | false =>
   have HX : Hid (treeOf s = (Sy.zT, y.2.f)) := by rw [Hid, HPA.out]; simp [ho]
   go_wp2_with fail
   refine (ok_q _ _ s (envOf s) y.2 0 0 HRd2.out).mono ?_; rintro en w' ⟨rfl, rfl⟩; obtain ⟨p9, hb9, _⟩ := HRd2.out.cells; have c6 := (hb9 6 _ rfl).1; have c7 := (hb9 7 _ rfl).1; clear hb9; have hn1 : w.heap.size ≠ w.heap.size + 1 + 1 := by omega
   have hn2 : w.heap.size + 1 ≠ w.heap.size + 1 + 1 := by omega
   have hn3 : w.heap.size ≠ w.heap.size + 1 := by omega
   go_wp2_with fail
   go_region_held3 (fun w' => w'.cell? ⟨w.heap.size + 1 + 1, 6, none⟩ = some (.int .i64 y.2.f.1) ∧ w'.cell? ⟨w.heap.size + 1 + 1, 7, none⟩ = some (.int .i64 y.2.f.2)) (go_keep) (fail)
   go_wp2_with fail
   refine bodyPost_ret (v := .tuple #[.agg #[.int .i64 0, .int .i64 0, .string ⟨#[]⟩, .int .i64 0, .slice none 0 0], .agg #[.int .i64 y.2.f.1, .int .i64 y.2.f.2]]) (by simp [results, Try.results7, go_sem, u0, u1, u2, u3, u4, e0, e1]) rfl ?_; rw [HX.out]; refine ⟨none, 0, 0, rfl, .nil, hid ?_⟩
   repeat (with_reducible (first | exact HBL.out | apply Below.drew | refine Below.setCell ?_ (by first | exact Nat.le_refl _ | exact Nat.le_succ _) _))
  | true =>
   obtain ⟨p8, hb8, _⟩ := HRd2.out.cells; have c1 := (hb8 1 _ rfl).1; clear hb8
   by_cases hk : y.2.t.kind = 0
   ·have hk' : ((y.2.t.kind : Int) != 0) = false := by simp [hk]
    have HX : Hid (treeOf s = (y.1, (0, 0))) := by rw [Hid, HPA.out]; simp [ho, hk]
    clear hk
    go_wp2_with fail
    refine (ok_q _ _ s (envOf s) y.2 0 0 HRd2.out).mono ?_; rintro en w' ⟨rfl, rfl⟩; have hn3 : w.heap.size ≠ w.heap.size + 1 := by omega
    have hn4 : ¬ w2.heap.size = w.heap.size := by omega
    have hn5 : ¬ w2.heap.size = w.heap.size + 1 := by omega
    go_wp2_with fail
    refine bodyPost_ret (v := .tuple #[.agg #[.int .i64 y.1.kind, .int .i64 y.1.pos, .string ⟨y.1.name.toArray⟩, .int .i64 y.1.num, .slice a2 l2 c2], .agg #[.int .i64 0, .int .i64 0]]) (by simp [results, Try.results7, go_sem, u0, u1, u2, u3, u4, e0, e1]) rfl ?_; rw [HX.out]; refine ⟨a2, l2, c2, rfl, hid (HV2.out.kids.carry (fun g hg _ => ?_) (fun g hg _ => by have := hg.1; omega)), hid ?_⟩
    ·have h1 := hg.1
     have h2 : g ≠ w.heap.size := by omega
     have h3 : g ≠ w.heap.size + 1 := by omega
     repeat (first | rw [Below.heap_setCell _ _ _ _ h2] | rw [Below.heap_setCell _ _ _ _ h3])
    ·repeat (with_reducible (first | exact HBL.out | apply Below.drew | refine Below.setCell ?_ (by first | exact Nat.le_refl _ | exact Nat.le_succ _) _))
   ·have hk' : ((y.2.t.kind : Int) != 0) = true := by simp; omega
    have HN : Hid (Sy.noA y.2 = ⟨y.2.t, y.2.rest, (4, y.2.t.pos)⟩) := by simp [Hid, Sy.noA, ho]
    have HX : Hid (treeOf s = (Sy.zT, (4, y.2.t.pos))) := by
     have hkb : (y.2.t.kind != 0) = true := by simp [hk]
     rw [Hid, HPA.out]; simp only [ho, hkb, Bool.true_and, if_true, HN.out]
     simp [Sy.okA]
    clear hk
    go_wp2_with fail
    refine (no_m _ _ s (envOf s) y.2 0 0 HRd2.out).mono ?_; rintro en w3 ⟨rfl, hr3, hk3⟩; have HR3 := hid hr3; have HK3 := hid hk3; clear hr3 hk3; rw [HN.out] at HR3; clear u0 u1 u2 u3 u4 u5 u6 u7 u8 u9 e0 e1 e2 e3 q0 q1 q2 q3 q4 q5 q6 q7 q8 q9 c1; have HKB := hid (HKA.out.trans HK3.out); have HO3 := hid (HI.out.one.kp HKB.out (by omega)); have HO4 := hid (HI.out.two.kp HKB.out (by omega)); have HBL := hid (Kp.belowOf HI.out.below HKB.out (by omega)); obtain ⟨⟨u0, u1, u2, u3, u4⟩, u5, u6, u7, u8, u9⟩ := blk5 HO3.out; obtain ⟨e0, e1, e2, e3⟩ := blk2 HO4.out
    go_wp2_with fail
    refine (ok_q _ _ s (envOf s) _ 0 0 HR3.out).mono ?_; rintro en w' ⟨rfl, rfl⟩; have hbad : Sy.okA ⟨y.2.t, y.2.rest, (4, y.2.t.pos)⟩ = false := by simp [Sy.okA]
    obtain ⟨p9, hb9, _⟩ := HR3.out.cells; have c6 : w3.cell? ⟨w.heap.size + 1 + 1, 6, none⟩ = some (.int .i64 4) := (hb9 6 _ rfl).1; have c7 : w3.cell? ⟨w.heap.size + 1 + 1, 7, none⟩ = some (.int .i64 y.2.t.pos) := (hb9 7 _ rfl).1; clear hb9; have hn1 : w.heap.size ≠ w.heap.size + 1 + 1 := by omega
    have hn2 : w.heap.size + 1 ≠ w.heap.size + 1 + 1 := by omega
    have hn3 : w.heap.size ≠ w.heap.size + 1 := by omega
    go_wp2_with fail
    go_region_held3 (fun w' => w'.cell? ⟨w.heap.size + 1 + 1, 6, none⟩ = some (.int .i64 4) ∧ w'.cell? ⟨w.heap.size + 1 + 1, 7, none⟩ = some (.int .i64 y.2.t.pos)) (go_keep) (fail)
    go_wp2_with fail
    refine bodyPost_ret (v := .tuple #[.agg #[.int .i64 0, .int .i64 0, .string ⟨#[]⟩, .int .i64 0, .slice none 0 0], .agg #[.int .i64 4, .int .i64 y.2.t.pos]]) (by simp [results, Try.results7, go_sem, u0, u1, u2, u3, u4, e0, e1]) rfl ?_; rw [HX.out]; refine ⟨none, 0, 0, rfl, .nil, hid ?_⟩
    repeat (with_reducible (first | exact HBL.out | apply Below.drew | refine Below.setCell ?_ (by first | exact Nat.le_refl _ | exact Nat.le_succ _) _))
end Go.Proofs.Ytejciampbnfbhaa
