/-
  What the document's Parse answers, for every text.
  The law: what is read is written as the document says.
-/
import Derived.Test.YtddnnlldkdljoaaGreatDoorMRxs
import Derived.Test.YtddnnlldkdljoaaGreatDoorMUa
namespace Go.Proofs.YtddnnlldkdljoaaGreatDoor
open Go.RowKit

theorem toksF_len : ∀ (f pos : Nat) (l : List UInt8), (Lx.toksF f pos l).1.length ≤ l.length := by
  intro f
  induction f with
  | zero => intro pos l; simp [Lx.toksF]
  | succ f ih =>
    intro pos l
    cases l with
    | nil => simp [Lx.toksF]
    | cons c r =>
      simp only [Lx.toksF]
      split
      · exact Nat.le_trans (ih _ _) (by simp)
      · split
        · rename_i h3
          have h4 := Lx.dropWhile_len c r h3
          exact Nat.le_trans (ih _ _) (by simp only [List.length_cons]; omega)
        · cases hT : Lx.tokAt pos (c :: r) with
          | error e => simp
          | ok x =>
            obtain ⟨t, n⟩ := x
            have hp := Lx.tokAt_pos hT
            have h5 := ih (pos + n) ((c :: r).drop n)
            simp only [Lx.tcons, List.length_cons, List.length_drop] at h5 hp ⊢
            omega

/-- What stands at the end of a text. -/
def envOf (s : ByteArray) : Sy.Env := ⟨(Lx.toks s.size 0 s.data.toList).2, s.size⟩
def startOf (s : ByteArray) : Sy.RS := ⟨Sy.zTk, (Lx.toks s.size 0 s.data.toList).1, (0, 0)⟩
/-- The tree and the fault of a text, by the reader that keeps its fault. -/
def treeOf (s : ByteArray) : Sy.Tr × (Nat × Nat) := if 3000 < s.size then (Sy.zT, (1, 0)) else Sy.parseA (envOf s) 4000 (startOf s)

theorem start_mu (s : ByteArray) (h : s.size ≤ 3000) : Sy.mu (Sy.nextA (envOf s) (startOf s)) < 4000 := by
  have h1 := toksF_len (s.data.toList.length + 1) 0 s.data.toList
  have h2 : (Lx.toks s.size 0 s.data.toList).1.length ≤ s.size := by
    have : s.data.toList.length = s.size := size_len s
    unfold Lx.toks
    omega
  unfold Sy.nextA startOf
  simp only [Sy.okA, beq_self_eq_true, if_true]
  generalize (Lx.toks s.size 0 s.data.toList).1 = l at *
  cases l with
  | nil =>
    simp only
    split
    · simp [Sy.mu, Sy.okA, Sy.endTk]
    · simp [Sy.mu, Sy.okA, Sy.zTk]
  | cons x r =>
    simp only [List.length_cons] at h2
    simp only [Sy.mu]
    split
    · split <;> omega
    · omega

def PRes (w : World) (x : Sy.Tr × (Nat × Nat)) (en : Ending) (w' : World) : Prop :=
  ∃ a l c, en = .returned (.tuple #[.agg #[.int .i64 x.1.kind, .int .i64 x.1.pos, .string ⟨x.1.name.toArray⟩, .int .i64 x.1.num, .slice a l c], .agg #[.int .i64 x.2.1, .int .i64 x.2.2]]) ∧
    Hid (Kids w' (fun g => w.heap.size ≤ g) (.slice a l c) x.1.kids) ∧ Hid (Below w.heap.size w w')

/-- The two results' blocks and a new reader. -/
structure InP (w : World) (s : ByteArray) (W : World) : Prop where
  one : Blk W w.heap.size [.int .i64 0, .int .i64 0, .string ⟨#[]⟩, .int .i64 0, .slice none 0 0]
  two : Blk W (w.heap.size + 1) [.int .i64 0, .int .i64 0]
  rd : Rd W (w.heap.size + 1 + 1) s (envOf s) (startOf s) 0 0
  below : Below w.heap.size w W
  size : W.heap.size = w.heap.size + 3
theorem inPs (w : World) (s : ByteArray) (hs : s.size ≤ 3000) (t1 t2 t3 : TypeId) :
    ∃ W, ((w.alloc (.cells #[.int .i64 0, .int .i64 0, .string ⟨#[]⟩, .int .i64 0, .slice none 0 0] t1)).alloc (.cells #[.int .i64 0, .int .i64 0] t2)).alloc (.cells #[.string s, .int .i64 0, .int .i64 0, .string ⟨#[]⟩, .int .i64 0, .int .i64 0, .int .i64 0, .int .i64 0, .int .i64 0, .int .i64 0] t3) = W ∧ Hid (InP w s W) := by
  have e1 : (w.alloc (.cells #[.int .i64 0, .int .i64 0, .string ⟨#[]⟩, .int .i64 0, .slice none 0 0] t1)).heap.size = w.heap.size + 1 := by simp
  have e2 : ((w.alloc (.cells #[.int .i64 0, .int .i64 0, .string ⟨#[]⟩, .int .i64 0, .slice none 0 0] t1)).alloc (.cells #[.int .i64 0, .int .i64 0] t2)).heap.size = w.heap.size + 1 + 1 := by simp
  refine ⟨_, rfl, ?_, ?_, ?_, (((Below.refl _ _).alloc (Nat.le_refl _) _).alloc (by omega) _).alloc (by omega) _, by simp⟩
  · exact ((Blk.new w [_, _, _, _, _] _).alloc _).alloc _
  · have h := Blk.new (w.alloc (.cells #[.int .i64 0, .int .i64 0, .string ⟨#[]⟩, .int .i64 0, .slice none 0 0] t1)) [.int .i64 0, .int .i64 0] t2
    rw [e1] at h
    exact h.alloc _
  · have h := Blk.new ((w.alloc (.cells #[.int .i64 0, .int .i64 0, .string ⟨#[]⟩, .int .i64 0, .slice none 0 0] t1)).alloc (.cells #[.int .i64 0, .int .i64 0] t2)) (rdVals s (startOf s) 0 0 0) t3
    rw [e2] at h
    exact ⟨hs, by simp [startOf, Sy.zTk], 0, h, Nat.zero_le _, fun _ => ⟨rfl, rfl, by rw [List.drop_zero]; rfl⟩⟩
theorem Kp.belowOf {b : Nat} {w W W' : World} (h : Below w.heap.size w W) (hk : Kp b W W') (hb : w.heap.size ≤ b) : Below w.heap.size w W' :=
  ⟨hk.os.trans h.os, hk.tape.trans h.tape, hk.output.trans h.output, Nat.le_trans h.size hk.size, fun i hi => (hk.block i (Nat.lt_of_lt_of_le hi h.size) (fun e => by have := Option.some.inj e; omega)).trans (h.block i hi)⟩

set_option maxRecDepth 100000 in
set_option maxHeartbeats 4000000 in
theorem rparse_any (s : ByteArray) (w : World) : Calls Tryz.prog 7 #[.string s] w fun en w' => PRes w (treeOf s) en w' := by
  by_cases hlong : 3000 < s.size
  · have HA : Hid (treeOf s = (Sy.zT, (1, 0))) := by simp [Hid, treeOf, hlong]
    go_enter Tryz.func7, Tryz.ntmps7
    go_wp2_with fail
    refine bodyPost_ret (v := .tuple #[.agg #[.int .i64 0, .int .i64 0, .string ⟨#[]⟩, .int .i64 0, .slice none 0 0], .agg #[.int .i64 1, .int .i64 0]]) (by simp [results, Tryz.results7, go_sem]) rfl ?_
    rw [HA.out]
    exact ⟨none, 0, 0, rfl, .nil, ((Below.refl _ _).alloc (Nat.le_refl _) _).alloc (by simp) _⟩
  · have HA : Hid (treeOf s = Sy.parseA (envOf s) 4000 (startOf s)) := by simp [Hid, treeOf, hlong]
    have HMU := hid (start_mu s (by omega))
    go_enter Tryz.func7, Tryz.ntmps7
    go_wp2_with fail
    obtain ⟨W0, hW0, HI⟩ := inPs w s (by omega) 24 27 43
    rw [hW0]
    clear hW0
    have hz0 := HI.out.size
    refine (next_m _ _ s (envOf s) (startOf s) 0 0 HI.out.rd).mono ?_
    rintro en w1 ⟨rfl, hr1, hk1⟩
    have HR1 := hid hr1
    have HK1 := hid hk1
    clear hr1 hk1
    have hz1 := HK1.out.size
    go_wp2_with fail
    refine (prog_m 4000 (by omega) w1 _ s (envOf s) _ HR1.out HMU.out).mono ?_
    rintro en w2 ⟨a2, l2, c2, rfl, HKd2, HR2, HK2⟩
    have HPA : Hid (treeOf s = (let n := Sy.progA (envOf s) 4000 (Sy.nextA (envOf s) (startOf s)); let u := if Sy.okA n.2 && n.2.t.kind != 0 then Sy.noA n.2 else n.2; if Sy.okA u then (n.1, (0, 0)) else (Sy.zT, u.f))) := by rw [Hid, HA.out]; rfl
    generalize hy : Sy.progA (envOf s) 4000 (Sy.nextA (envOf s) (startOf s)) = y at *
    clear hy
    simp only [] at HPA
    obtain ⟨W2, hW2, HV2, HRd2, HKp2, hs2, ht2⟩ := var_new HKd2.out HR2.out HK2.out 24
    have HKA := hid (HK1.out.trans HKp2.out)
    have HO1 := hid (HI.out.one.kp HKA.out (by omega))
    have HO2 := hid (HI.out.two.kp HKA.out (by omega))
    have HBL := hid (Kp.belowOf HI.out.below HKA.out (by omega))
    obtain ⟨⟨u0, u1, u2, u3, u4⟩, u5, u6, u7, u8, u9⟩ := blk5 HO1.out
    obtain ⟨e0, e1, e2, e3⟩ := blk2 HO2.out
    obtain ⟨⟨q0, q1, q2, q3, q4⟩, q5, q6, q7, q8, q9⟩ := blk5 HV2.out.cells
    go_wp2_with fail
    try rw [hW2]
    clear hW2
    refine (ok_q _ _ s (envOf s) y.2 0 0 HRd2.out).mono ?_
    rintro en w' ⟨rfl, rfl⟩
    cases ho : Sy.okA y.2 with
    | false =>
      have HX : Hid (treeOf s = (Sy.zT, y.2.f)) := by rw [Hid, HPA.out]; simp [ho]
      go_wp2_with fail
      refine (ok_q _ _ s (envOf s) y.2 0 0 HRd2.out).mono ?_
      rintro en w' ⟨rfl, rfl⟩
      obtain ⟨p9, hb9, _⟩ := HRd2.out.cells
      have c6 := (hb9 6 _ rfl).1
      have c7 := (hb9 7 _ rfl).1
      clear hb9
      have hn1 : w.heap.size ≠ w.heap.size + 1 + 1 := by omega
      have hn2 : w.heap.size + 1 ≠ w.heap.size + 1 + 1 := by omega
      have hn3 : w.heap.size ≠ w.heap.size + 1 := by omega
      go_wp2_with fail
      go_region_held3 (fun w' => w'.cell? ⟨w.heap.size + 1 + 1, 6, none⟩ = some (.int .i64 y.2.f.1) ∧ w'.cell? ⟨w.heap.size + 1 + 1, 7, none⟩ = some (.int .i64 y.2.f.2)) (go_keep) (fail)
      go_wp2_with fail
      refine bodyPost_ret (v := .tuple #[.agg #[.int .i64 0, .int .i64 0, .string ⟨#[]⟩, .int .i64 0, .slice none 0 0], .agg #[.int .i64 y.2.f.1, .int .i64 y.2.f.2]]) (by simp [results, Tryz.results7, go_sem, u0, u1, u2, u3, u4, e0, e1]) rfl ?_
      rw [HX.out]
      refine ⟨none, 0, 0, rfl, .nil, hid ?_⟩
      repeat (with_reducible (first | exact HBL.out | apply Below.drew | refine Below.setCell ?_ (by first | exact Nat.le_refl _ | exact Nat.le_succ _) _))
    | true =>
      obtain ⟨p8, hb8, _⟩ := HRd2.out.cells
      have c1 := (hb8 1 _ rfl).1
      clear hb8
      by_cases hk : y.2.t.kind = 0
      · have hk' : ((y.2.t.kind : Int) != 0) = false := by simp [hk]
        have HX : Hid (treeOf s = (y.1, (0, 0))) := by rw [Hid, HPA.out]; simp [ho, hk]
        clear hk
        go_wp2_with fail
        refine (ok_q _ _ s (envOf s) y.2 0 0 HRd2.out).mono ?_
        rintro en w' ⟨rfl, rfl⟩
        have hn3 : w.heap.size ≠ w.heap.size + 1 := by omega
        have hn4 : ¬ w2.heap.size = w.heap.size := by omega
        have hn5 : ¬ w2.heap.size = w.heap.size + 1 := by omega
        go_wp2_with fail
        refine bodyPost_ret (v := .tuple #[.agg #[.int .i64 y.1.kind, .int .i64 y.1.pos, .string ⟨y.1.name.toArray⟩, .int .i64 y.1.num, .slice a2 l2 c2], .agg #[.int .i64 0, .int .i64 0]]) (by simp [results, Tryz.results7, go_sem, u0, u1, u2, u3, u4, e0, e1]) rfl ?_
        rw [HX.out]
        refine ⟨a2, l2, c2, rfl, hid (HV2.out.kids.carry (fun g hg _ => ?_) (fun g hg _ => by have := hg.1; omega)), hid ?_⟩
        · have h1 := hg.1
          have h2 : g ≠ w.heap.size := by omega
          have h3 : g ≠ w.heap.size + 1 := by omega
          repeat (first | rw [Below.heap_setCell _ _ _ _ h2] | rw [Below.heap_setCell _ _ _ _ h3])
        · repeat (with_reducible (first | exact HBL.out | apply Below.drew | refine Below.setCell ?_ (by first | exact Nat.le_refl _ | exact Nat.le_succ _) _))
      · have hk' : ((y.2.t.kind : Int) != 0) = true := by simp; omega
        have HN : Hid (Sy.noA y.2 = ⟨y.2.t, y.2.rest, (4, y.2.t.pos)⟩) := by simp [Hid, Sy.noA, ho]
        have HX : Hid (treeOf s = (Sy.zT, (4, y.2.t.pos))) := by
          have hkb : (y.2.t.kind != 0) = true := by simp [hk]
          rw [Hid, HPA.out]
          simp only [ho, hkb, Bool.true_and, if_true, HN.out]
          simp [Sy.okA]
        clear hk
        go_wp2_with fail
        refine (no_m _ _ s (envOf s) y.2 0 0 HRd2.out).mono ?_
        rintro en w3 ⟨rfl, hr3, hk3⟩
        have HR3 := hid hr3
        have HK3 := hid hk3
        clear hr3 hk3
        rw [HN.out] at HR3
        clear u0 u1 u2 u3 u4 u5 u6 u7 u8 u9 e0 e1 e2 e3 q0 q1 q2 q3 q4 q5 q6 q7 q8 q9 c1
        have HKB := hid (HKA.out.trans HK3.out)
        have HO3 := hid (HI.out.one.kp HKB.out (by omega))
        have HO4 := hid (HI.out.two.kp HKB.out (by omega))
        have HBL := hid (Kp.belowOf HI.out.below HKB.out (by omega))
        obtain ⟨⟨u0, u1, u2, u3, u4⟩, u5, u6, u7, u8, u9⟩ := blk5 HO3.out
        obtain ⟨e0, e1, e2, e3⟩ := blk2 HO4.out
        go_wp2_with fail
        refine (ok_q _ _ s (envOf s) _ 0 0 HR3.out).mono ?_
        rintro en w' ⟨rfl, rfl⟩
        have hbad : Sy.okA ⟨y.2.t, y.2.rest, (4, y.2.t.pos)⟩ = false := by simp [Sy.okA]
        obtain ⟨p9, hb9, _⟩ := HR3.out.cells
        have c6 : w3.cell? ⟨w.heap.size + 1 + 1, 6, none⟩ = some (.int .i64 4) := (hb9 6 _ rfl).1
        have c7 : w3.cell? ⟨w.heap.size + 1 + 1, 7, none⟩ = some (.int .i64 y.2.t.pos) := (hb9 7 _ rfl).1
        clear hb9
        have hn1 : w.heap.size ≠ w.heap.size + 1 + 1 := by omega
        have hn2 : w.heap.size + 1 ≠ w.heap.size + 1 + 1 := by omega
        have hn3 : w.heap.size ≠ w.heap.size + 1 := by omega
        go_wp2_with fail
        go_region_held3 (fun w' => w'.cell? ⟨w.heap.size + 1 + 1, 6, none⟩ = some (.int .i64 4) ∧ w'.cell? ⟨w.heap.size + 1 + 1, 7, none⟩ = some (.int .i64 y.2.t.pos)) (go_keep) (fail)
        go_wp2_with fail
        refine bodyPost_ret (v := .tuple #[.agg #[.int .i64 0, .int .i64 0, .string ⟨#[]⟩, .int .i64 0, .slice none 0 0], .agg #[.int .i64 4, .int .i64 y.2.t.pos]]) (by simp [results, Tryz.results7, go_sem, u0, u1, u2, u3, u4, e0, e1]) rfl ?_
        rw [HX.out]
        refine ⟨none, 0, 0, rfl, .nil, hid ?_⟩
        repeat (with_reducible (first | exact HBL.out | apply Below.drew | refine Below.setCell ?_ (by first | exact Nat.le_refl _ | exact Nat.le_succ _) _))
end Go.Proofs.YtddnnlldkdljoaaGreatDoor

namespace Go.Proofs.YtddnnlldkdljoaaGreatDoor
open Go.RowKit
open Sy (Tr)

theorem Kids.ki {w : World} {F : Nat → Prop} {v : Value} {l : List Tr} (h : Kids w F v l) : Ki w v l := by
  induction h with
  | nil => exact .nil none 0
  | row g c kids ks hg h0 hc hcell hk ih => exact .row g 0 c kids ks h0 hc (fun i hi => by rw [Nat.zero_add]; exact hcell i hi) ih
/-- The tree of a text that is read without a fault may have been read. -/
theorem treeOf_nice (s : ByteArray) (h : (treeOf s).2.1 = 0) : Nice (treeOf s).1 ∧ (treeOf s).1.kind = 0 ∧ nodes (treeOf s).1 ≤ 6000 := by
  obtain ⟨N, hN0, e⟩ : ∃ N : Nat, N ≠ 0 ∧ treeOf s = if 3000 < s.size then (Sy.zT, (1, 0)) else Sy.parseA (envOf s) N ⟨Sy.zTk, (Lx.toks s.size 0 s.data.toList).1, (0, 0)⟩ := ⟨4000, by decide, rfl⟩
  rw [e] at h ⊢
  clear e
  by_cases hl : 3000 < s.size
  · rw [if_pos hl] at h
    cases h
  · rw [if_neg hl] at h ⊢
    have h1 := toksF_len (s.data.toList.length + 1) 0 s.data.toList
    have h2 : s.data.toList.length = s.size := size_len s
    have hk : ∀ t ∈ (Lx.toks s.size 0 s.data.toList).1, TokOne t := fun t ht => toks_one _ _ _ t ht
    have h3 : (Lx.toks s.size 0 s.data.toList).1.length ≤ 3000 := by
      unfold Lx.toks
      omega
    generalize (Lx.toks s.size 0 s.data.toList).1 = ts at h hk h3 ⊢
    obtain ⟨k1, k2, k3⟩ := tree_nice hN0 ts hk h
    exact ⟨k1, k2, by omega⟩
def zProg : Tr := .mk 0 0 [] 0 [.mk 5 0 [] 0 []]
theorem zProg_nice : Nice zProg ∧ zProg.kind = 0 ∧ nodes zProg ≤ 6000 := by
  refine ⟨?_, rfl, by simp [zProg, nodes, nodesL]⟩
  unfold zProg
  rw [Nice]
  refine ⟨by simp, ?_, ?_⟩
  · exact .inr (.inr (.inr (.inr (.inr (.inr (.inr (.inr (.inr (.inr (.inr (.inr (.inr ⟨rfl, [], [], .mk 5 0 [] 0 [], rfl, rfl, by simp, by simp, isEk (by decide)⟩))))))))))))
  · simp only [NiceL, and_true]
    exact (niceLeafE (by omega) (by simp)).1

set_option maxRecDepth 100000 in
set_option maxHeartbeats 8000000 in
theorem prints_any (s : ByteArray) (w : World) (hT : TabW w) : Calls Tryz.prog 4 #[.string s] w fun e w' => e = .returned (.bool true) ∧ Hid (Below w.heap.size w w') := by
  have HP := hid (fun (W : World) => rparse_any s W)
  have HTT := hid hT
  have HTN := hid (treeOf_nice s)
  generalize treeOf s = X at HP HTN
  obtain ⟨T, fk, fp⟩ := X
  clear hT
  go_enter Tryz.func4, Tryz.ntmps4
  go_wp2_with fail
  refine (HP.out w).mono ?_
  rintro e w1 ⟨a, l, c, rfl, HK, HB⟩
  have HKI := hid HK.out.ki
  obtain ⟨W1, hW1⟩ : ∃ W1, W1 = (w1.alloc (.cells #[.int .i64 T.kind, .int .i64 T.pos, .string ⟨T.name.toArray⟩, .int .i64 T.num, .slice a l c] 24)).alloc (.cells #[.int .i64 fk, .int .i64 fp] 27) := ⟨_, rfl⟩
  have HBW : Hid (Below w1.heap.size w1 W1) := by rw [hW1]; exact ((Below.refl _ _).alloc (Nat.le_refl _) _).alloc (by simp) _
  have bn : W1.heap[w1.heap.size]? = some (.cells #[.int .i64 T.kind, .int .i64 T.pos, .string ⟨T.name.toArray⟩, .int .i64 T.num, .slice a l c] 24 (0, 0)) := by
    rw [hW1, heap_alloc_old _ _ (by simp)]
    exact heap_alloc_new w1 _
  have bf : W1.cell? ⟨w1.heap.size + 1, 0, none⟩ = some (.int .i64 fk) := by rw [hW1]; simp [go_sem]
  have hs1 : W1.heap.size = w1.heap.size + 2 := by rw [hW1]; simp
  go_upto_region 2 with fail
  rw [← hW1]
  clear hW1
  have HBB := hid (HB.out.trans (HBW.out.mono HB.out.size))
  by_cases hf : fk = 0
  · subst hf
    obtain ⟨n1, n2, n3⟩ := HTN.out rfl
    obtain ⟨res, hp, hw⟩ := both_any T n1 n2 n3 W1 (HTT.out.past HBB.out) _ (HKI.out.past HBW.out)
    have HPR := hid hp
    have HWR := hid hw
    clear hp hw n1 n2 n3
    unfold nodeV at HPR HWR
    generalize (T.kind : Int) = tk at *
    generalize (T.pos : Int) = tp at *
    generalize T.num = tn at *
    generalize T.name = tx at *
    have b0 : W1.cell? ⟨w1.heap.size, 0, none⟩ = some (.int .i64 tk) := by rw [cell_of_row _ _ 0 _ _ (0, 0) bn]; rfl
    have b1 : W1.cell? ⟨w1.heap.size, 1, none⟩ = some (.int .i64 tp) := by rw [cell_of_row _ _ 1 _ _ (0, 0) bn]; rfl
    have b2 : W1.cell? ⟨w1.heap.size, 2, none⟩ = some (.string ⟨tx.toArray⟩) := by rw [cell_of_row _ _ 2 _ _ (0, 0) bn]; rfl
    have b3 : W1.cell? ⟨w1.heap.size, 3, none⟩ = some (.int .i64 tn) := by rw [cell_of_row _ _ 3 _ _ (0, 0) bn]; rfl
    have b4 : W1.cell? ⟨w1.heap.size, 4, none⟩ = some (.slice a l c) := by rw [cell_of_row _ _ 4 _ _ (0, 0) bn]; rfl
    clear bn
    obtain ⟨W2, hW2⟩ : ∃ W2, W2 = W1.alloc (.cells #[.int .i64 tk, .int .i64 tp, .string ⟨tx.toArray⟩, .int .i64 tn, .slice a l c] 24) := ⟨_, rfl⟩
    have HB2 : Hid (Below W1.heap.size W1 W2) := by rw [hW2]; exact (Below.refl _ _).alloc (Nat.le_refl _) _
    have hH1 : w1.heap.size < W1.heap.size := by omega
    have hs2 : W2.heap.size = w1.heap.size + 3 := by rw [hW2]; simp [hs1]
    have hH1b : w1.heap.size < W2.heap.size := by omega
    have hH2 : w1.heap.size + 2 < W2.heap.size := by omega
    have c0 := past_cells HB2.out hH1 b0
    have c1 := past_cells HB2.out hH1 b1
    have c2 := past_cells HB2.out hH1 b2
    have c3 := past_cells HB2.out hH1 b3
    have c4 := past_cells HB2.out hH1 b4
    have d0 : W2.cell? ⟨w1.heap.size + 2, 0, none⟩ = some (.int .i64 tk) := by rw [hW2, ← hs1]; simp [go_sem]
    have d1 : W2.cell? ⟨w1.heap.size + 2, 1, none⟩ = some (.int .i64 tp) := by rw [hW2, ← hs1]; simp [go_sem]
    have d2 : W2.cell? ⟨w1.heap.size + 2, 2, none⟩ = some (.string ⟨tx.toArray⟩) := by rw [hW2, ← hs1]; simp [go_sem]
    have d3 : W2.cell? ⟨w1.heap.size + 2, 3, none⟩ = some (.int .i64 tn) := by rw [hW2, ← hs1]; simp [go_sem]
    have d4 : W2.cell? ⟨w1.heap.size + 2, 4, none⟩ = some (.slice a l c) := by rw [hW2, ← hs1]; simp [go_sem]
    go_upto_region 5 with fail
    rw [← hW2]
    clear hW2 b0 b1 b2 b3 b4 bf
    go_region_held3 (fun w' => w'.cell? ⟨w1.heap.size, 0, none⟩ = some (.int .i64 tk) ∧ w'.cell? ⟨w1.heap.size, 1, none⟩ = some (.int .i64 tp) ∧ w'.cell? ⟨w1.heap.size, 2, none⟩ = some (.string ⟨tx.toArray⟩) ∧ w'.cell? ⟨w1.heap.size, 3, none⟩ = some (.int .i64 tn) ∧ w'.cell? ⟨w1.heap.size, 4, none⟩ = some (.slice a l c) ∧ w'.cell? ⟨w1.heap.size + 2, 0, none⟩ = some (.int .i64 tk) ∧ w'.cell? ⟨w1.heap.size + 2, 1, none⟩ = some (.int .i64 tp) ∧ w'.cell? ⟨w1.heap.size + 2, 2, none⟩ = some (.string ⟨tx.toArray⟩) ∧ w'.cell? ⟨w1.heap.size + 2, 3, none⟩ = some (.int .i64 tn) ∧ w'.cell? ⟨w1.heap.size + 2, 4, none⟩ = some (.slice a l c)) (go_keep)
      (first
        | (go_at_call 9; refine (HPR.out _ (by repeat (with_reducible (first | exact HB2.out | apply Below.drew)))).mono ?_; rintro e w3 ⟨rfl, HB3⟩; have HB13 : Hid (Below W1.heap.size W1 w3) := Below.trans (by repeat (with_reducible (first | exact HB2.out | apply Below.drew))) (HB3.out.mono HB2.out.size); have y0 := past_cells HB3.out hH1b c0; have y1 := past_cells HB3.out hH1b c1; have y2 := past_cells HB3.out hH1b c2; have y3 := past_cells HB3.out hH1b c3; have y4 := past_cells HB3.out hH1b c4; have z0 := past_cells HB3.out hH2 d0; have z1 := past_cells HB3.out hH2 d1; have z2 := past_cells HB3.out hH2 d2; have z3 := past_cells HB3.out hH2 d3; have z4 := past_cells HB3.out hH2 d4)
        | (go_at_call 10; refine (HWR.out _ (by repeat (with_reducible (first | exact HB13.out | apply Below.drew)))).mono ?_; rintro e w4 ⟨rfl, HB4⟩; have HB14 : Hid (Below W1.heap.size W1 w4) := Below.trans (by repeat (with_reducible (first | exact HB13.out | apply Below.drew))) (HB4.out.mono HB13.out.size); have u0 := past_cells HB4.out (World.block_lt_of_cell? w3 _ y0) y0; have u1 := past_cells HB4.out (World.block_lt_of_cell? w3 _ y1) y1; have u2 := past_cells HB4.out (World.block_lt_of_cell? w3 _ y2) y2; have u3 := past_cells HB4.out (World.block_lt_of_cell? w3 _ y3) y3; have u4 := past_cells HB4.out (World.block_lt_of_cell? w3 _ y4) y4; have v0 := past_cells HB4.out (World.block_lt_of_cell? w3 _ z0) z0; have v1 := past_cells HB4.out (World.block_lt_of_cell? w3 _ z1) z1; have v2 := past_cells HB4.out (World.block_lt_of_cell? w3 _ z2) z2; have v3 := past_cells HB4.out (World.block_lt_of_cell? w3 _ z3) z3; have v4 := past_cells HB4.out (World.block_lt_of_cell? w3 _ z4) z4))
    go_wp2_with fail
    go_ret
    refine ⟨rfl, Below.trans HBB.out (Below.mono (B := W1.heap.size) ?_ HBB.out.size)⟩
    repeat (with_reducible (first | exact HB14.out | apply Below.drew))
  · have hf2 : ¬ (fk : Int) = 0 := by omega
    have e0 : W1.frozen? ⟨w1.heap.size, 0, none⟩ = false := by simp [World.frozen?, bn]
    have e1 : W1.frozen? ⟨w1.heap.size, 1, none⟩ = false := by simp [World.frozen?, bn]
    have e2 : W1.frozen? ⟨w1.heap.size, 2, none⟩ = false := by simp [World.frozen?, bn]
    have e3 : W1.frozen? ⟨w1.heap.size, 3, none⟩ = false := by simp [World.frozen?, bn]
    have e4 : W1.frozen? ⟨w1.heap.size, 4, none⟩ = false := by simp [World.frozen?, bn]
    have b0 : W1.cell? ⟨w1.heap.size, 0, none⟩ = some (.int .i64 T.kind) := by rw [cell_of_row _ _ 0 _ _ (0, 0) bn]; rfl
    have b1 : W1.cell? ⟨w1.heap.size, 1, none⟩ = some (.int .i64 T.pos) := by rw [cell_of_row _ _ 1 _ _ (0, 0) bn]; rfl
    have b2 : W1.cell? ⟨w1.heap.size, 2, none⟩ = some (.string ⟨T.name.toArray⟩) := by rw [cell_of_row _ _ 2 _ _ (0, 0) bn]; rfl
    have b3 : W1.cell? ⟨w1.heap.size, 3, none⟩ = some (.int .i64 T.num) := by rw [cell_of_row _ _ 3 _ _ (0, 0) bn]; rfl
    have b4 : W1.cell? ⟨w1.heap.size, 4, none⟩ = some (.slice a l c) := by rw [cell_of_row _ _ 4 _ _ (0, 0) bn]; rfl
    obtain ⟨X, hX⟩ : ∃ X, X = ((((((W1.setCell ⟨w1.heap.size, 0, none⟩ (.int .i64 0)).setCell ⟨w1.heap.size, 1, none⟩ (.int .i64 0)).setCell ⟨w1.heap.size, 2, none⟩ (.string ⟨#[]⟩)).setCell ⟨w1.heap.size, 3, none⟩ (.int .i64 0)).setCell ⟨w1.heap.size, 4, none⟩ (.slice (some ⟨w1.heap.size + 2, 0, none⟩) 1 1)).alloc (.cells #[.int .i64 5, .int .i64 0, .string ⟨#[]⟩, .int .i64 0, .slice none 0 0] 24)) := ⟨_, rfl⟩
    have HBX1 : Hid (Below w1.heap.size w1 X) := by
      rw [hX]
      refine Below.alloc ?_ (by simp [hs1]) _
      exact ((((HBW.out.setCell (p := ⟨w1.heap.size, 0, none⟩) (Nat.le_refl _) _).setCell (p := ⟨w1.heap.size, 1, none⟩) (Nat.le_refl _) _).setCell (p := ⟨w1.heap.size, 2, none⟩) (Nat.le_refl _) _).setCell (p := ⟨w1.heap.size, 3, none⟩) (Nat.le_refl _) _).setCell (p := ⟨w1.heap.size, 4, none⟩) (Nat.le_refl _) _
    have HBX := hid (HB.out.trans (HBX1.out.mono HB.out.size))
    have hsX : X.heap.size = w1.heap.size + 3 := by rw [hX]; simp [hs1]
    have hbk : Blk W1 w1.heap.size [.int .i64 T.kind, .int .i64 T.pos, .string ⟨T.name.toArray⟩, .int .i64 T.num, .slice a l c] := fun k v hk => ⟨by
      rw [cell_of_row _ _ k _ _ (0, 0) bn]
      simpa using hk, by simp [World.frozen?, bn]⟩
    have hby : Blk (((((W1.setCell ⟨w1.heap.size, 0, none⟩ (.int .i64 0)).setCell ⟨w1.heap.size, 1, none⟩ (.int .i64 0)).setCell ⟨w1.heap.size, 2, none⟩ (.string ⟨#[]⟩)).setCell ⟨w1.heap.size, 3, none⟩ (.int .i64 0)).setCell ⟨w1.heap.size, 4, none⟩ (.slice (some ⟨w1.heap.size + 2, 0, none⟩) 1 1)) w1.heap.size [.int .i64 0, .int .i64 0, .string ⟨#[]⟩, .int .i64 0, .slice (some ⟨w1.heap.size + 2, 0, none⟩) 1 1] := ((((hbk.set 0 (by simp) (.int .i64 0)).set 1 (by simp) (.int .i64 0)).set 2 (by simp) (.string ⟨#[]⟩)).set 3 (by simp) (.int .i64 0)).set 4 (by simp) (.slice (some ⟨w1.heap.size + 2, 0, none⟩) 1 1)
    have hbx : Blk X w1.heap.size [.int .i64 0, .int .i64 0, .string ⟨#[]⟩, .int .i64 0, .slice (some ⟨w1.heap.size + 2, 0, none⟩) 1 1] := by rw [hX]; exact hby.alloc _
    have x0 : X.cell? ⟨w1.heap.size, 0, none⟩ = some (.int .i64 0) := (hbx 0 _ rfl).1
    have x1 : X.cell? ⟨w1.heap.size, 1, none⟩ = some (.int .i64 0) := (hbx 1 _ rfl).1
    have x2 : X.cell? ⟨w1.heap.size, 2, none⟩ = some (.string ⟨#[]⟩) := (hbx 2 _ rfl).1
    have x3 : X.cell? ⟨w1.heap.size, 3, none⟩ = some (.int .i64 0) := (hbx 3 _ rfl).1
    have x4 : X.cell? ⟨w1.heap.size, 4, none⟩ = some (.slice (some ⟨w1.heap.size + 2, 0, none⟩) 1 1) := (hbx 4 _ rfl).1
    have hgb : X.heap[w1.heap.size + 2]? = some (.cells #[.int .i64 5, .int .i64 0, .string ⟨#[]⟩, .int .i64 0, .slice none 0 0] 24 (0, 0)) := by
      have h := heap_alloc_new (((((W1.setCell ⟨w1.heap.size, 0, none⟩ (.int .i64 0)).setCell ⟨w1.heap.size, 1, none⟩ (.int .i64 0)).setCell ⟨w1.heap.size, 2, none⟩ (.string ⟨#[]⟩)).setCell ⟨w1.heap.size, 3, none⟩ (.int .i64 0)).setCell ⟨w1.heap.size, 4, none⟩ (.slice (some ⟨w1.heap.size + 2, 0, none⟩) 1 1)) (.cells #[.int .i64 5, .int .i64 0, .string ⟨#[]⟩, .int .i64 0, .slice none 0 0] 24)
      have hy : ((((((W1.setCell ⟨w1.heap.size, 0, none⟩ (.int .i64 0)).setCell ⟨w1.heap.size, 1, none⟩ (.int .i64 0)).setCell ⟨w1.heap.size, 2, none⟩ (.string ⟨#[]⟩)).setCell ⟨w1.heap.size, 3, none⟩ (.int .i64 0)).setCell ⟨w1.heap.size, 4, none⟩ (.slice (some ⟨w1.heap.size + 2, 0, none⟩) 1 1)) : World).heap.size = w1.heap.size + 2 := by simp [hs1]
      rw [hy] at h
      rw [hX]
      exact h
    have g0 : X.cell? ⟨w1.heap.size + 2, 0, none⟩ = some (.int .i64 5) := by rw [cell_of_row _ _ 0 _ _ (0, 0) hgb]; rfl
    have g1 : X.cell? ⟨w1.heap.size + 2, 1, none⟩ = some (.int .i64 0) := by rw [cell_of_row _ _ 1 _ _ (0, 0) hgb]; rfl
    have g2 : X.cell? ⟨w1.heap.size + 2, 2, none⟩ = some (.string ⟨#[]⟩) := by rw [cell_of_row _ _ 2 _ _ (0, 0) hgb]; rfl
    have g3 : X.cell? ⟨w1.heap.size + 2, 3, none⟩ = some (.int .i64 0) := by rw [cell_of_row _ _ 3 _ _ (0, 0) hgb]; rfl
    have g4 : X.cell? ⟨w1.heap.size + 2, 4, none⟩ = some (.slice none 0 0) := by rw [cell_of_row _ _ 4 _ _ (0, 0) hgb]; rfl
    go_upto_region 4 with fail
    rw [← hX]
    clear hX hbk hby hbx hgb bf bn b0 b1 b2 b3 b4 e0 e1 e2 e3 e4
    have HKX : Hid (Ki X (.slice (some ⟨w1.heap.size + 2, 0, none⟩) 1 1) zProg.kids) :=
      Ki.row (w1.heap.size + 2) 0 1 [.mk 5 0 [] 0 []] (fun _ => .slice none 0 0) (by simp) (by simp)
        (fun i hi => by
          have : i = 0 := by simpa using hi
          subst this
          exact ⟨g0, g1, g2, g3, g4⟩)
        (fun i hi => by
          have : i = 0 := by simpa using hi
          subst this
          exact .nil none 0)
    obtain ⟨z1, z2, z3⟩ := zProg_nice
    obtain ⟨res, hp, hw⟩ := both_any zProg z1 z2 z3 X (HTT.out.past HBX.out) _ HKX.out
    have HPR : Hid (∀ W, Below X.heap.size X W → Calls Tryz.prog 9 #[.agg #[.int .i64 0, .int .i64 0, .string ⟨#[]⟩, .int .i64 0, .slice (some ⟨w1.heap.size + 2, 0, none⟩) 1 1]] W fun e w' => StrRes W res e w') := hp
    have HWR : Hid (∀ W, Below X.heap.size X W → Calls Tryz.prog 10 #[.agg #[.int .i64 0, .int .i64 0, .string ⟨#[]⟩, .int .i64 0, .slice (some ⟨w1.heap.size + 2, 0, none⟩) 1 1]] W fun e w' => StrRes W res e w') := hw
    clear hp hw z1 z2 z3 g0 g1 g2 g3 g4
    obtain ⟨W2, hW2⟩ : ∃ W2, W2 = X.alloc (.cells #[.int .i64 0, .int .i64 0, .string ⟨#[]⟩, .int .i64 0, .slice (some ⟨w1.heap.size + 2, 0, none⟩) 1 1] 24) := ⟨_, rfl⟩
    have HB2 : Hid (Below X.heap.size X W2) := by rw [hW2]; exact (Below.refl _ _).alloc (Nat.le_refl _) _
    have hH1 : w1.heap.size < X.heap.size := by omega
    have hs2 : W2.heap.size = w1.heap.size + 4 := by rw [hW2]; simp [hsX]
    have hH1b : w1.heap.size < W2.heap.size := by omega
    have hH2 : w1.heap.size + 3 < W2.heap.size := by omega
    have c0 := past_cells HB2.out hH1 x0
    have c1 := past_cells HB2.out hH1 x1
    have c2 := past_cells HB2.out hH1 x2
    have c3 := past_cells HB2.out hH1 x3
    have c4 := past_cells HB2.out hH1 x4
    have d0 : W2.cell? ⟨w1.heap.size + 3, 0, none⟩ = some (.int .i64 0) := by rw [hW2, ← hsX]; simp [go_sem]
    have d1 : W2.cell? ⟨w1.heap.size + 3, 1, none⟩ = some (.int .i64 0) := by rw [hW2, ← hsX]; simp [go_sem]
    have d2 : W2.cell? ⟨w1.heap.size + 3, 2, none⟩ = some (.string ⟨#[]⟩) := by rw [hW2, ← hsX]; simp [go_sem]
    have d3 : W2.cell? ⟨w1.heap.size + 3, 3, none⟩ = some (.int .i64 0) := by rw [hW2, ← hsX]; simp [go_sem]
    have d4 : W2.cell? ⟨w1.heap.size + 3, 4, none⟩ = some (.slice (some ⟨w1.heap.size + 2, 0, none⟩) 1 1) := by rw [hW2, ← hsX]; simp [go_sem]
    go_upto_region 5 with fail
    rw [← hW2]
    clear hW2 x0 x1 x2 x3 x4
    go_region_held3 (fun w' => w'.cell? ⟨w1.heap.size, 0, none⟩ = some (.int .i64 0) ∧ w'.cell? ⟨w1.heap.size, 1, none⟩ = some (.int .i64 0) ∧ w'.cell? ⟨w1.heap.size, 2, none⟩ = some (.string ⟨#[]⟩) ∧ w'.cell? ⟨w1.heap.size, 3, none⟩ = some (.int .i64 0) ∧ w'.cell? ⟨w1.heap.size, 4, none⟩ = some (.slice (some ⟨w1.heap.size + 2, 0, none⟩) 1 1) ∧ w'.cell? ⟨w1.heap.size + 3, 0, none⟩ = some (.int .i64 0) ∧ w'.cell? ⟨w1.heap.size + 3, 1, none⟩ = some (.int .i64 0) ∧ w'.cell? ⟨w1.heap.size + 3, 2, none⟩ = some (.string ⟨#[]⟩) ∧ w'.cell? ⟨w1.heap.size + 3, 3, none⟩ = some (.int .i64 0) ∧ w'.cell? ⟨w1.heap.size + 3, 4, none⟩ = some (.slice (some ⟨w1.heap.size + 2, 0, none⟩) 1 1)) (go_keep)
      (first
        | (go_at_call 9; refine (HPR.out _ (by repeat (with_reducible (first | exact HB2.out | apply Below.drew)))).mono ?_; rintro e w3 ⟨rfl, HB3⟩; have HB13 : Hid (Below X.heap.size X w3) := Below.trans (by repeat (with_reducible (first | exact HB2.out | apply Below.drew))) (HB3.out.mono HB2.out.size); have y0 := past_cells HB3.out hH1b c0; have y1 := past_cells HB3.out hH1b c1; have y2 := past_cells HB3.out hH1b c2; have y3 := past_cells HB3.out hH1b c3; have y4 := past_cells HB3.out hH1b c4; have z0 := past_cells HB3.out hH2 d0; have z1 := past_cells HB3.out hH2 d1; have z2 := past_cells HB3.out hH2 d2; have z3 := past_cells HB3.out hH2 d3; have z4 := past_cells HB3.out hH2 d4)
        | (go_at_call 10; refine (HWR.out _ (by repeat (with_reducible (first | exact HB13.out | apply Below.drew)))).mono ?_; rintro e w4 ⟨rfl, HB4⟩; have HB14 : Hid (Below X.heap.size X w4) := Below.trans (by repeat (with_reducible (first | exact HB13.out | apply Below.drew))) (HB4.out.mono HB13.out.size); have u0 := past_cells HB4.out (World.block_lt_of_cell? w3 _ y0) y0; have u1 := past_cells HB4.out (World.block_lt_of_cell? w3 _ y1) y1; have u2 := past_cells HB4.out (World.block_lt_of_cell? w3 _ y2) y2; have u3 := past_cells HB4.out (World.block_lt_of_cell? w3 _ y3) y3; have u4 := past_cells HB4.out (World.block_lt_of_cell? w3 _ y4) y4; have v0 := past_cells HB4.out (World.block_lt_of_cell? w3 _ z0) z0; have v1 := past_cells HB4.out (World.block_lt_of_cell? w3 _ z1) z1; have v2 := past_cells HB4.out (World.block_lt_of_cell? w3 _ z2) z2; have v3 := past_cells HB4.out (World.block_lt_of_cell? w3 _ z3) z3; have v4 := past_cells HB4.out (World.block_lt_of_cell? w3 _ z4) z4))
    go_wp2_with fail
    go_ret
    refine ⟨rfl, Below.trans HBX.out (Below.mono (B := X.heap.size) ?_ HBX.out.size)⟩
    repeat (with_reducible (first | exact HB14.out | apply Below.drew))
end Go.Proofs.YtddnnlldkdljoaaGreatDoor
