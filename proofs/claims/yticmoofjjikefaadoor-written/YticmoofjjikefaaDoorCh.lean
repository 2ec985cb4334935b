/-
  The document's Reader reads an instruction.
-/
import Derived.Test.YticmoofjjikefaaDoorCg
set_option linter.unusedVariables false
set_option linter.unusedSimpArgs false
namespace Go.Proofs.YticmoofjjikefaaDoor
open Go.RowKit Go.Lib

theorem num_posle {s : List UInt8} {n : Nat} {r : Cd.Rd} (hs : s.length ≤ 4000000) (hp : r.pos ≤ 4000003) : (r.num s n).2.pos ≤ 4000003 := by
  have := num_pos s n r
  omega
theorem num_fault (s : List UInt8) (n : Nat) (r : Cd.Rd) (h : (r.num s n).2.fk ≠ 0) : (r.num s n).1 = 0 := by
  unfold Cd.Rd.num at h ⊢
  split
  · rename_i hh
    rw [if_pos hh] at h
    exact absurd hh.1 h
  · rfl
theorem num_ok1 (s : List UInt8) (n : Nat) (r : Cd.Rd) (h : (r.num s n).2.fk = 0) : n ≤ (r.num s n).2.pos := by
  unfold Cd.Rd.num at h ⊢
  split
  · simp
  · rename_i hh
    rw [if_neg hh] at h
    unfold Cd.Rd.no at h
    split at h
    · cases h
    · rename_i h2
      exact absurd h h2

theorem RdM.alloc {w : World} {b : Nat} {s : List UInt8} {r : Cd.Rd} (h : RdM w b s r) (o : Obj) : RdM (w.alloc o) b s r := by
  unfold RdM at h ⊢
  rw [← h]
  exact Go.Deep.blk_alloc_lt _ _ _ (RdM.lt h)
theorem RdM.other {w : World} {b k i : Nat} {v : Value} {s : List UInt8} {r : Cd.Rd} (h : RdM w b s r) (hk : k ≠ b) : RdM (w.setCell ⟨k, i, none⟩ v) b s r := by
  unfold RdM at h ⊢
  rw [← h]
  exact Go.Deep.blk_setCell_other _ _ _ _ (fun e => hk (by simpa using e.symm))
theorem grown_new {w w' : World} {b k i : Nat} {v : Value} (h : w.grownBy w' (some b)) (hk : w.heap.size ≤ k) : w.grownBy (w'.setCell ⟨k, i, none⟩ v) (some b) := by
  refine ⟨h.os, h.tape, h.output, by simpa using h.size, fun j hj hne => ?_⟩
  rw [← h.block j hj hne]
  exact Go.Deep.blk_setCell_other _ _ _ _ (by simp; omega)
theorem form_four (op : Int) : Cd.form op = 8 ∨ Cd.form op = 1 ∨ Cd.form op = 2 ∨ Cd.form op = 0 := by
  unfold Cd.form
  split
  · simp
  · split
    · simp
    · split <;> simp
theorem zero4 {w w1 : World} {b : Nat} {v0 v1 v2 v3 : Value} {t : TypeId} (hne : w.heap.size ≠ b) (hg : (w.alloc (.cells #[v0, v1, v2, v3] t)).grownBy w1 (some b)) :
    w1.cell? ⟨w.heap.size, 0, none⟩ = some v0 ∧ w1.cell? ⟨w.heap.size, 1, none⟩ = some v1 ∧ w1.cell? ⟨w.heap.size, 2, none⟩ = some v2 ∧ w1.cell? ⟨w.heap.size, 3, none⟩ = some v3 :=
  ⟨grown_cell hg hne (by simp), grown_cell hg hne (by simp), grown_cell hg hne (by simp), grown_cell hg hne (by simp)⟩
theorem zero4f {w w1 : World} {b : Nat} {c : Array Value} {t : TypeId} (hne : w.heap.size ≠ b) (hg : (w.alloc (.cells c t)).grownBy w1 (some b)) (i : Nat) : w1.frozen? ⟨w.heap.size, i, none⟩ = false :=
  (grown_frozen hg hne (by simp)).trans (by simp [go_sem])

set_option maxHeartbeats 4000000 in
theorem rins_any (w : World) (b : Nat) (s : List UInt8) (r : Cd.Rd) (h : RdM w b s r) (hs : s.length ≤ 4000000) (hp : r.pos ≤ 4000003) :
    Calls Tryd.prog 16 #[ptrV b] w fun e w' => e = .returned (insV (r.ins s).1) ∧ RdM w' b s (r.ins s).2 ∧ w.grownBy w' (some b) := by
  have hb := h.lt
  have hne : w.heap.size ≠ b := by omega
  have HN := hid (fun (V : World) (hV : RdM V b s r) => num_any V b s r 1 hV hs hp (by omega))
  rw [sgn_one] at HN
  have hlt := Cd.num_one_lt s r
  have hps := num_posle (n := 1) hs hp
  have hok := num_ok1 s 1 r
  have hft := num_fault s 1 r
  have HE : Hid (r.ins s = (let a := r.num s 1
    if a.2.fk = 0 ∧ 23 ≤ a.1 then ((⟨0, 0, 0, 0⟩ : Cd.Ins), a.2.no 15 (a.2.pos - 1))
    else if Cd.form a.1 = 8 then (⟨a.1, 0, 0, Cd.sgn (a.2.num s 8).1⟩, (a.2.num s 8).2)
    else if Cd.form a.1 = 1 then (⟨a.1, (a.2.num s 2).1, 0, 0⟩, (a.2.num s 2).2)
    else if Cd.form a.1 = 2 then (⟨a.1, (a.2.num s 2).1, ((a.2.num s 2).2.num s 2).1, 0⟩, ((a.2.num s 2).2.num s 2).2)
    else (⟨a.1, 0, 0, 0⟩, a.2))) := rfl
  generalize r.num s 1 = x at HN hlt hps hok hft HE
  obtain ⟨v, r1⟩ := x
  dsimp only at HN hlt hps hok hft HE
  have H := hid h
  clear h
  unfold ptrV at HN ⊢
  by_cases hbad : r1.fk = 0 ∧ 23 ≤ v
  · obtain ⟨hb0, hb1⟩ := hbad
    have HB : Hid (r1.fk = 0 ∧ 23 ≤ v) := ⟨hb0, hb1⟩
    have hq := hok hb0
    have hwp : IntKind.i64.wrap ((r1.pos : Int) - 1) = ((r1.pos - 1 : Nat) : Int) := by rw [IntKind.wrap_i64]; omega
    go_enter Tryd.func16, Tryd.ntmps16
    go_wp2_with fail
    refine (HN.out _ (H.out.alloc _)).mono ?_
    rintro en w1 ⟨rfl, hr1, hg1⟩
    have HR1 := hid hr1
    have HG1 := hid (grown_trans (grown_alloc (grown_refl _ _) _) hg1)
    obtain ⟨p0, p1, p2, p3⟩ := zero4 hne hg1
    have q := zero4f hne hg1
    obtain ⟨c0, c1, c2, c3, hf⟩ := hr1.cells
    have hz1 : w.heap.size < w1.heap.size := World.block_lt_of_cell? w1 ⟨w.heap.size, 0, none⟩ p0
    clear hr1 hg1
    dsimp only
    go_wp2_with fail
    refine (ok_any w1 b s r1 HR1.out).mono ?_
    rintro en w2 ⟨rfl, hw2⟩
    have hw3 := hw2.symm
    subst hw3
    dsimp only
    go_wp2_with fail
    refine (no_any w1 b s r1 15 (r1.pos - 1) HR1.out).mono ?_
    rintro en w2 ⟨rfl, hr2, hg2⟩
    have HR2 := hid hr2
    have HG2 := hid hg2
    have o0 := grown_cell hg2 hne p0
    have o1 := grown_cell hg2 hne p1
    have o2 := grown_cell hg2 hne p2
    have o3 := grown_cell hg2 hne p3
    have oq : ∀ i, w2.frozen? ⟨w.heap.size, i, none⟩ = false := fun i => (grown_frozen hg2 hne hz1).trans (q i)
    clear hr2 hg2
    dsimp only
    go_wp2_with fail
    refine bodyPost_ret (v := insV ⟨0, 0, 0, 0⟩) (by simp [results, Tryd.results16, go_sem, insV, o0, o1, o2, o3]) rfl ?_
    rw [HE.out, if_pos HB.out]
    exact ⟨rfl, ((((HR2.out.other hne).other hne).other hne).other hne), grown_new (grown_new (grown_new (grown_new (grown_trans HG1.out HG2.out) (Nat.le_refl _)) (Nat.le_refl _)) (Nat.le_refl _)) (Nat.le_refl _)⟩
  · have HNB := hid hbad
    have hv : v < 23 := by
      by_cases h0 : r1.fk = 0
      · by_cases h1 : 23 ≤ v
        · exact absurd ⟨h0, h1⟩ hbad
        · omega
      · have := hft h0
        omega
    clear hbad hok hft
    have hvi : ¬ ((23 : Int) ≤ (v : Int)) := by omega
    by_cases h0 : r1.fk = 0
    all_goals
      go_enter Tryd.func16, Tryd.ntmps16
      go_wp2_with fail
      refine (HN.out _ (H.out.alloc _)).mono ?_
      rintro en w1 ⟨rfl, hr1, hg1⟩
      have HR1 := hid hr1
      have HG1 := hid (grown_trans (grown_alloc (grown_refl _ _) _) hg1)
      obtain ⟨p0, p1, p2, p3⟩ := zero4 hne hg1
      have q := zero4f hne hg1
      obtain ⟨c0, c1, c2, c3, hf⟩ := hr1.cells
      have hz1 : w.heap.size < w1.heap.size := World.block_lt_of_cell? w1 ⟨w.heap.size, 0, none⟩ p0
      have hb1 : b < w1.heap.size := hr1.lt
      clear hr1 hg1
      dsimp only
      go_wp2_with fail
      refine (ok_any w1 b s r1 HR1.out).mono ?_
      rintro en w2 ⟨rfl, hw2⟩
      have hw3 := hw2.symm
      subst hw3
      dsimp only
      go_wp2_with fail
      refine (form_any (v : Int) _).mono ?_
      rintro en w2 ⟨rfl, rfl⟩
      dsimp only
      have HR2 := hid (HR1.out.alloc (.cells #[.int .i64 (v : Int), .int .i64 0, .int .i64 0, .int .i64 0] 64))
      have HG2 := hid (grown_alloc HG1.out (.cells #[.int .i64 (v : Int), .int .i64 0, .int .i64 0, .int .i64 0] 64))
      have hneX : w1.heap.size ≠ b := by omega
      have hnXY : w.heap.size ≠ w1.heap.size := by omega
      have r0 := kc ((Below.refl _ _).alloc (Nat.le_refl _) (.cells #[.int .i64 (v : Int), .int .i64 0, .int .i64 0, .int .i64 0] 64)) p0
      have r1' := kc ((Below.refl _ _).alloc (Nat.le_refl _) (.cells #[.int .i64 (v : Int), .int .i64 0, .int .i64 0, .int .i64 0] 64)) p1
      have r2 := kc ((Below.refl _ _).alloc (Nat.le_refl _) (.cells #[.int .i64 (v : Int), .int .i64 0, .int .i64 0, .int .i64 0] 64)) p2
      have r3 := kc ((Below.refl _ _).alloc (Nat.le_refl _) (.cells #[.int .i64 (v : Int), .int .i64 0, .int .i64 0, .int .i64 0] 64)) p3
      have rq : ∀ i, (w1.alloc (.cells #[.int .i64 (v : Int), .int .i64 0, .int .i64 0, .int .i64 0] 64)).frozen? ⟨w.heap.size, i, none⟩ = false := fun i => (World.frozen?_of_block (a := ⟨w.heap.size, i, none⟩) (Go.Deep.blk_alloc_lt _ _ _ hz1)).trans (q i)
      have hzA : w.heap.size < (w1.alloc (.cells #[.int .i64 (v : Int), .int .i64 0, .int .i64 0, .int .i64 0] 64)).heap.size := by simp; omega
      rcases form_four (v : Int) with hf8 | hf8 | hf8 | hf8
      · have HEx : Hid (r.ins s = (⟨v, 0, 0, Cd.sgn (r1.num s 8).1⟩, (r1.num s 8).2)) := by rw [Hid, HE.out, if_neg HNB.out, if_pos hf8]
        have hi8 : ((Cd.form (v : Int) : Nat) : Int) = 8 := by rw [hf8]; rfl
        rw [hi8]
        go_wp2_with fail
        refine (num_any _ b s r1 8 HR2.out hs hps (by omega)).mono ?_
        rintro en w3 ⟨rfl, hr3, hg3⟩
        have HR3 := hid hr3
        have HG3 := hid (grown_trans HG2.out hg3)
        obtain ⟨x0, x1, x2, x3⟩ := zero4 hneX hg3
        have xq := zero4f hneX hg3
        have y0 := grown_cell hg3 hne r0
        have y1 := grown_cell hg3 hne r1'
        have y2 := grown_cell hg3 hne r2
        have y3 := grown_cell hg3 hne r3
        have yq : ∀ i, w3.frozen? ⟨w.heap.size, i, none⟩ = false := fun i => (grown_frozen hg3 hne hzA).trans (rq i)
        clear hr3 hg3
        dsimp only
        generalize r1.num s 8 = z at HR3 HEx
        go_wp2_with fail
        refine bodyPost_ret (v := insV ⟨v, 0, 0, Cd.sgn z.1⟩) (by simp [results, Tryd.results16, go_sem, insV, y0, y1, y2, y3, hnXY]) rfl ?_
        rw [HEx.out]
        exact ⟨rfl, (((((HR3.out.other hneX).other hne).other hne).other hne).other hne), grown_new (grown_new (grown_new (grown_new (grown_new HG3.out (Nat.le_of_lt hz1)) (Nat.le_refl _)) (Nat.le_refl _)) (Nat.le_refl _)) (Nat.le_refl _)⟩
      · have HEx : Hid (r.ins s = (⟨v, (r1.num s 2).1, 0, 0⟩, (r1.num s 2).2)) := by rw [Hid, HE.out, if_neg HNB.out, if_neg (by omega), if_pos hf8]
        have hi8 : ((Cd.form (v : Int) : Nat) : Int) = 1 := by rw [hf8]; rfl
        rw [hi8]
        go_wp2_with fail
        have HNN := num_any _ b s r1 2 HR2.out hs hps (by omega)
        rw [sgn_two] at HNN
        refine HNN.mono ?_
        rintro en w3 ⟨rfl, hr3, hg3⟩
        have HR3 := hid hr3
        have HG3 := hid (grown_trans HG2.out hg3)
        obtain ⟨x0, x1, x2, x3⟩ := zero4 hneX hg3
        have xq := zero4f hneX hg3
        have y0 := grown_cell hg3 hne r0
        have y1 := grown_cell hg3 hne r1'
        have y2 := grown_cell hg3 hne r2
        have y3 := grown_cell hg3 hne r3
        have yq : ∀ i, w3.frozen? ⟨w.heap.size, i, none⟩ = false := fun i => (grown_frozen hg3 hne hzA).trans (rq i)
        clear hr3 hg3 HNN
        dsimp only
        generalize r1.num s 2 = z at HR3 HEx
        go_wp2_with fail
        refine bodyPost_ret (v := insV ⟨v, z.1, 0, 0⟩) (by simp [results, Tryd.results16, go_sem, insV, y0, y1, y2, y3, hnXY]) rfl ?_
        rw [HEx.out]
        exact ⟨rfl, (((((HR3.out.other hneX).other hne).other hne).other hne).other hne), grown_new (grown_new (grown_new (grown_new (grown_new HG3.out (Nat.le_of_lt hz1)) (Nat.le_refl _)) (Nat.le_refl _)) (Nat.le_refl _)) (Nat.le_refl _)⟩
      · have HEx : Hid (r.ins s = (⟨v, (r1.num s 2).1, ((r1.num s 2).2.num s 2).1, 0⟩, ((r1.num s 2).2.num s 2).2)) := by rw [Hid, HE.out, if_neg HNB.out, if_neg (by omega), if_neg (by omega), if_pos hf8]
        have hi8 : ((Cd.form (v : Int) : Nat) : Int) = 2 := by rw [hf8]; rfl
        rw [hi8]
        have hps2 := num_posle (n := 2) hs hps
        go_wp2_with fail
        have HNN := num_any _ b s r1 2 HR2.out hs hps (by omega)
        rw [sgn_two] at HNN
        refine HNN.mono ?_
        rintro en w3 ⟨rfl, hr3, hg3⟩
        have HR3 := hid hr3
        have HG3 := hid (grown_trans HG2.out hg3)
        obtain ⟨x0, x1, x2, x3⟩ := zero4 hneX hg3
        have xq := zero4f hneX hg3
        have y0 := grown_cell hg3 hne r0
        have y1 := grown_cell hg3 hne r1'
        have y2 := grown_cell hg3 hne r2
        have y3 := grown_cell hg3 hne r3
        have yq : ∀ i, w3.frozen? ⟨w.heap.size, i, none⟩ = false := fun i => (grown_frozen hg3 hne hzA).trans (rq i)
        have hzX : w1.heap.size < w3.heap.size := World.block_lt_of_cell? w3 ⟨w1.heap.size, 0, none⟩ x0
        have hzY : w.heap.size < w3.heap.size := Nat.lt_trans hz1 hzX
        clear hr3 hg3 HNN
        dsimp only
        generalize r1.num s 2 = z at HR3 HEx hps2
        go_wp2_with fail
        have HR4 := hid (HR3.out.other (v := .int .i64 (z.1 : Int)) (i := 1) hneX)
        have HG4 := hid (grown_new (v := .int .i64 (z.1 : Int)) (i := 1) HG3.out (Nat.le_of_lt hz1))
        have HNN := num_any _ b s z.2 2 HR4.out hs hps2 (by omega)
        rw [sgn_two] at HNN
        refine HNN.mono ?_
        rintro en w4 ⟨rfl, hr4, hg4⟩
        have HR5 := hid hr4
        have HG5 := hid (grown_trans HG4.out hg4)
        have a0 := grown_cell hg4 hneX (show (w3.setCell ⟨w1.heap.size, 1, none⟩ (.int .i64 (z.1 : Int))).cell? ⟨w1.heap.size, 0, none⟩ = some (.int .i64 (v : Int)) by simp [x0, go_sem])
        have a1 := grown_cell hg4 hneX (show (w3.setCell ⟨w1.heap.size, 1, none⟩ (.int .i64 (z.1 : Int))).cell? ⟨w1.heap.size, 1, none⟩ = some (.int .i64 (z.1 : Int)) by simp [x1, go_sem])
        have a2 := grown_cell hg4 hneX (show (w3.setCell ⟨w1.heap.size, 1, none⟩ (.int .i64 (z.1 : Int))).cell? ⟨w1.heap.size, 2, none⟩ = some (.int .i64 0) by simp [x2, go_sem])
        have a3 := grown_cell hg4 hneX (show (w3.setCell ⟨w1.heap.size, 1, none⟩ (.int .i64 (z.1 : Int))).cell? ⟨w1.heap.size, 3, none⟩ = some (.int .i64 0) by simp [x3, go_sem])
        have b0 := grown_cell hg4 hne (show (w3.setCell ⟨w1.heap.size, 1, none⟩ (.int .i64 (z.1 : Int))).cell? ⟨w.heap.size, 0, none⟩ = some (.int .i64 0) by simp [y0, go_sem, hnXY])
        have b1 := grown_cell hg4 hne (show (w3.setCell ⟨w1.heap.size, 1, none⟩ (.int .i64 (z.1 : Int))).cell? ⟨w.heap.size, 1, none⟩ = some (.int .i64 0) by simp [y1, go_sem, hnXY])
        have b2 := grown_cell hg4 hne (show (w3.setCell ⟨w1.heap.size, 1, none⟩ (.int .i64 (z.1 : Int))).cell? ⟨w.heap.size, 2, none⟩ = some (.int .i64 0) by simp [y2, go_sem, hnXY])
        have b3 := grown_cell hg4 hne (show (w3.setCell ⟨w1.heap.size, 1, none⟩ (.int .i64 (z.1 : Int))).cell? ⟨w.heap.size, 3, none⟩ = some (.int .i64 0) by simp [y3, go_sem, hnXY])
        have aq : ∀ i, w4.frozen? ⟨w1.heap.size, i, none⟩ = false := fun i => (grown_frozen hg4 hneX (by simpa using hzX)).trans (by simpa [go_sem] using xq i)
        have bq : ∀ i, w4.frozen? ⟨w.heap.size, i, none⟩ = false := fun i => (grown_frozen hg4 hne (by simpa using hzY)).trans (by simpa [go_sem] using yq i)
        clear hr4 hg4 HNN x0 x1 x2 x3 y0 y1 y2 y3 xq yq
        have y0 := b0
        have y1 := b1
        have y2 := b2
        have y3 := b3
        dsimp only
        generalize z.2.num s 2 = z2 at HR5 HEx
        go_wp2_with fail
        refine bodyPost_ret (v := insV ⟨v, z.1, z2.1, 0⟩) (by simp [results, Tryd.results16, go_sem, insV, y0, y1, y2, y3, hnXY]) rfl ?_
        rw [HEx.out]
        exact ⟨rfl, (((((HR5.out.other hneX).other hne).other hne).other hne).other hne), grown_new (grown_new (grown_new (grown_new (grown_new HG5.out (Nat.le_of_lt hz1)) (Nat.le_refl _)) (Nat.le_refl _)) (Nat.le_refl _)) (Nat.le_refl _)⟩
      · have HEx : Hid (r.ins s = (⟨v, 0, 0, 0⟩, r1)) := by rw [Hid, HE.out, if_neg HNB.out, if_neg (by omega), if_neg (by omega), if_neg (by omega)]
        have hi8 : ((Cd.form (v : Int) : Nat) : Int) = 0 := by rw [hf8]; rfl
        rw [hi8]
        have x0 : (w1.alloc (.cells #[.int .i64 (v : Int), .int .i64 0, .int .i64 0, .int .i64 0] 64)).cell? ⟨w1.heap.size, 0, none⟩ = some (.int .i64 (v : Int)) := by simp
        have x1 : (w1.alloc (.cells #[.int .i64 (v : Int), .int .i64 0, .int .i64 0, .int .i64 0] 64)).cell? ⟨w1.heap.size, 1, none⟩ = some (.int .i64 0) := by simp
        have x2 : (w1.alloc (.cells #[.int .i64 (v : Int), .int .i64 0, .int .i64 0, .int .i64 0] 64)).cell? ⟨w1.heap.size, 2, none⟩ = some (.int .i64 0) := by simp
        have x3 : (w1.alloc (.cells #[.int .i64 (v : Int), .int .i64 0, .int .i64 0, .int .i64 0] 64)).cell? ⟨w1.heap.size, 3, none⟩ = some (.int .i64 0) := by simp
        generalize w1.alloc (.cells #[.int .i64 (v : Int), .int .i64 0, .int .i64 0, .int .i64 0] 64) = A at HR2 HG2 r0 r1' r2 r3 rq hzA x0 x1 x2 x3 ⊢
        have y0 := r0
        have y1 := r1'
        have y2 := r2
        have y3 := r3
        go_wp2_with fail
        refine bodyPost_ret (v := insV ⟨v, 0, 0, 0⟩) (by simp [results, Tryd.results16, go_sem, insV, y0, y1, y2, y3, hnXY]) rfl ?_
        rw [HEx.out]
        exact ⟨rfl, ((((HR2.out.other hne).other hne).other hne).other hne), grown_new (grown_new (grown_new (grown_new HG2.out (Nat.le_refl _)) (Nat.le_refl _)) (Nat.le_refl _)) (Nat.le_refl _)⟩
end Go.Proofs.YticmoofjjikefaaDoor
