/-
  The document's Encode.
-/
import Derived.Test.YtkfjjkpphpakbaaCc
import Derived.Test.YtkfjjkpphpakbaaCn
import Derived.Deep.Cut
set_option linter.unusedVariables false
set_option linter.unusedSimpArgs false
namespace Go.Proofs.Ytkfjjkpphpakbaa
open Go.RowKit Go.Lib

def encE (C : Cd.Code) : Ending := .returned (.tuple #[.string ⟨(Cd.enc C).1.toArray⟩, .int .i64 ((Cd.enc C).2 : Nat)])
def codeV (C : Cd.Code) (b c d : Value) : Value := .agg #[.string ⟨C.shape.toArray⟩, b, c, d]

/-- The state: what was there stands, the code's four values lie in the first new block, the bytes so far in a row. -/
def EnS (w wr : World) (a b c d : Value) (v : Value) (l : List UInt8) : Prop :=
  Below w.heap.size w wr ∧ w.heap.size + 1 ≤ wr.heap.size ∧ (wr.cell? ⟨w.heap.size, 0, none⟩ = some a ∧ wr.cell? ⟨w.heap.size, 1, none⟩ = some b ∧ wr.cell? ⟨w.heap.size, 2, none⟩ = some c ∧ wr.cell? ⟨w.heap.size, 3, none⟩ = some d) ∧ ByRow wr (w.heap.size + 1) v l
theorem EnS.keep {w wr w' : World} {a b c d v : Value} {l : List UInt8} (h : EnS w wr a b c d v l) (hb : Below wr.heap.size wr w') : EnS w w' a b c d v l := by
  obtain ⟨h1, h2, ⟨h3, h4, h5, h6⟩, h7⟩ := h
  exact ⟨h1.trans (hb.mono h1.size), Nat.le_trans h2 hb.size, ⟨kc hb h3, kc hb h4, kc hb h5, kc hb h6⟩, h7.keep hb⟩
theorem EnS.app {w wr w' : World} {a b c d v v' : Value} {l l' : List UInt8} (h : EnS w wr a b c d v l) (hr : ByRow w' (w.heap.size + 1) v' l') (hb : Below (w.heap.size + 1) wr w') : EnS w w' a b c d v' l' := by
  obtain ⟨h1, h2, ⟨h3, h4, h5, h6⟩, h7⟩ := h
  have k : ∀ {o v}, wr.cell? ⟨w.heap.size, o, none⟩ = some v → w'.cell? ⟨w.heap.size, o, none⟩ = some v := fun h => past_cells hb (Nat.lt_succ_self _) h
  exact ⟨h1.trans (hb.mono (Nat.le_succ _)), Nat.le_trans h2 hb.size, ⟨k h3, k h4, k h5, k h6⟩, hr⟩

/-- The state within a loop whose variable is a struct, in the block H. -/
def EnL (w wr : World) (a b c d : Value) (v : Value) (l : List UInt8) (H : Nat) (cs : List Value) : Prop :=
  EnS w wr a b c d v l ∧ w.heap.size < H ∧ H < wr.heap.size ∧ (∀ i x, cs[i]? = some x → wr.cell? ⟨H, i, none⟩ = some x) ∧ some H ≠ v.ownBlock
theorem EnL.keep {w wr w' : World} {a b c d v : Value} {l : List UInt8} {H : Nat} {cs : List Value} (h : EnL w wr a b c d v l H cs) (hb : Below wr.heap.size wr w') : EnL w w' a b c d v l H cs := by
  obtain ⟨h1, h2, h3, h4, h5⟩ := h
  exact ⟨h1.keep hb, h2, Nat.lt_of_lt_of_le h3 hb.size, fun i x hx => kc hb (h4 i x hx), h5⟩
theorem EnL.app {w wr w' : World} {a b c d v v' : Value} {l l' : List UInt8} {H : Nat} {cs : List Value} (h : EnL w wr a b c d v l H cs) (hr : ByRow w' (w.heap.size + 1) v' l') (hb : Below (w.heap.size + 1) wr w') (hg : wr.grownBy w' v.ownBlock) (hat : v'.ownBlock = v.ownBlock ∨ v'.ownBlock = some wr.heap.size) : EnL w w' a b c d v' l' H cs := by
  obtain ⟨h1, h2, h3, h4, h5⟩ := h
  refine ⟨h1.app hr hb, h2, Nat.lt_of_lt_of_le h3 hb.size, fun i x hx => hg.cell (h4 i x hx) h5, ?_⟩
  rcases hat with e | e
  · rw [e]; exact h5
  · rw [e]; simp; omega
theorem EnL.drew {w wr : World} {a b c d v : Value} {l : List UInt8} {H : Nat} {cs : List Value} (h : EnL w wr a b c d v l H cs) : EnL w wr.drew a b c d v l H cs := h.keep (Below.refl _ _).drew
theorem EnL.start {w wr : World} {a b c d v : Value} {l : List UInt8} {cs : List Value} {t : TypeId} (h : EnS w wr a b c d v l) : EnL w (wr.alloc (.cells cs.toArray t)) a b c d v l wr.heap.size cs := by
  refine ⟨h.keep ((Below.refl _ _).alloc (Nat.le_refl _) _), h.2.1, by simp, fun i x hx => ?_, h.2.2.2.ne (.inl (Nat.le_refl _))⟩
  simp [hx]

set_option maxRecDepth 100000 in
set_option maxHeartbeats 4000000 in
theorem enc_counts (C : Cd.Code) (b c d : Value) (w : World) (hM : CodeM w b c d C) (hc : Cd.counts C = false) :
    Calls Try.prog 6 #[codeV C b c d] w fun e w' => e = encE C ∧ Below w.heap.size w w' := by
  have HC := hid hc
  have HE : Hid (encE C = .returned (.tuple #[.string ⟨#[]⟩, .int .i64 14])) := by simp [Hid, encE, Cd.enc, Cd.ok, hc]
  clear hc
  obtain ⟨⟨ao, co, rfl, _, _⟩, ⟨ah, ch, rfl, _, _⟩, ⟨af, cf, rfl, _, _⟩⟩ := hM
  unfold codeV
  have hsz := size_mk C.shape
  go_enter Try.func6, Try.ntmps6
  go_wp2_with fail
  all_goals first
    | (refine bodyPost_ret (v := .tuple #[.string ⟨#[]⟩, .int .i64 14]) (by simp [results, Try.results6, go_sem]) rfl ⟨HE.out.symm, (Below.refl _ _).alloc (Nat.le_refl _) _⟩)
    | (exfalso
       have h := HC.out
       unfold Cd.counts at h
       simp_all
       omega)

theorem enc_bad {C : Cd.Code} (h : Cd.ok C = false) : encE C = .returned (.tuple #[.string ⟨#[]⟩, .int .i64 14]) := by simp [encE, Cd.enc, h]
theorem bad_op {C : Cd.Code} {o : Cd.Op} (hm : o ∈ C.ops) (h : Cd.opOk o = false) : Cd.ok C = false := by
  cases hk : Cd.ok C with
  | false => rfl
  | true =>
    unfold Cd.ok at hk
    simp only [Bool.and_eq_true, List.all_eq_true] at hk
    rw [hk.1.1.2 o hm] at h
    cases h
theorem bad_han {C : Cd.Code} {o : Cd.Han} (hm : o ∈ C.hans) (h : Cd.hanOk o = false) : Cd.ok C = false := by
  cases hk : Cd.ok C with
  | false => rfl
  | true =>
    unfold Cd.ok at hk
    simp only [Bool.and_eq_true, List.all_eq_true] at hk
    rw [hk.1.2 o hm] at h
    cases h
theorem bad_fun {C : Cd.Code} {o : Cd.Fun} (hm : o ∈ C.funs) (h : Cd.funOk o = false) : Cd.ok C = false := by
  cases hk : Cd.ok C with
  | false => rfl
  | true =>
    unfold Cd.ok at hk
    simp only [Bool.and_eq_true, List.all_eq_true] at hk
    rw [hk.2 o hm] at h
    cases h

theorem bad_num {o : Cd.Han} {x : Int} (hm : x ∈ o.ops) (h : Cd.fits x 255 = false) : Cd.hanOk o = false := by
  cases hk : Cd.hanOk o with
  | false => rfl
  | true =>
    unfold Cd.hanOk at hk
    simp only [Bool.and_eq_true, List.all_eq_true] at hk
    rw [hk.2 x hm] at h
    cases h
theorem han_good {o : Cd.Han} (h : o.ops.length ≤ 255) (ha : ∀ x ∈ o.ops, Cd.fits x 255 = true) : Cd.hanOk o = true := by
  unfold Cd.hanOk
  simp only [Bool.and_eq_true, List.all_eq_true, decide_eq_true_eq]
  exact ⟨h, ha⟩
theorem bad_ins {o : Cd.Fun} {x : Cd.Ins} (hm : x ∈ o.ins) (h : Cd.insOk x = false) : Cd.funOk o = false := by
  cases hk : Cd.funOk o with
  | false => rfl
  | true =>
    unfold Cd.funOk at hk
    simp only [Bool.and_eq_true, List.all_eq_true] at hk
    rw [hk.2 x hm] at h
    cases h
theorem fun_good {o : Cd.Fun} (h0 : Cd.fits o.free 65535 = true) (h1 : Cd.fits o.slots 65535 = true) (h : o.ins.length ≤ 65535) (ha : ∀ x ∈ o.ins, Cd.insOk x = true) : Cd.funOk o = true := by
  unfold Cd.funOk
  simp only [Bool.and_eq_true, List.all_eq_true, decide_eq_true_eq]
  exact ⟨⟨⟨h0, h1⟩, h⟩, ha⟩

def A0 (C : Cd.Code) : List UInt8 := Cd.head ++ Cd.big C.shape.length 2 ++ C.shape ++ Cd.big C.ops.length 1
def A2 (C : Cd.Code) : List UInt8 := A0 C ++ C.ops.flatMap Cd.opB ++ Cd.big C.hans.length 2
def A4 (C : Cd.Code) : List UInt8 := A2 C ++ C.hans.flatMap Cd.hanB ++ Cd.big C.funs.length 2

theorem lt_of_lens {n m : Nat} (h : n ≤ m) : ¬ ((m : Int) < (n : Int)) := by omega

set_option maxRecDepth 100000 in
set_option maxHeartbeats 4000000 in
theorem enc_main (C : Cd.Code) (b c d : Value) (w : World) (hM : CodeM w b c d C) (hc : Cd.counts C = true) :
    Calls Try.prog 6 #[codeV C b c d] w fun e w' => e = encE C ∧ Below w.heap.size w w' := by
  have hc2 := hc
  unfold Cd.counts at hc2
  simp only [Bool.and_eq_true, decide_eq_true_eq] at hc2
  obtain ⟨⟨⟨hc0, hc1⟩, hcc2⟩, hc3⟩ := hc2
  have HC := hid hc
  clear hc
  have HM := hid hM
  obtain ⟨⟨ao, co, rfl, hco, hx1⟩, ⟨ah, ch, rfl, hch, hx2⟩, ⟨af, cf, rfl, hcf, hx3⟩⟩ := hM
  have HX1 := hid hx1
  have HX2 := hid hx2
  have HX3 := hid hx3
  clear hx1 hx2 hx3
  unfold codeV
  have hsz := size_mk C.shape
  go_enter Try.func6, Try.ntmps6
  go_upto_region 3 with fail
  generalize hW : (w.alloc _ : World) = W
  have HBW : Hid (Below w.heap.size w W) := by rw [← hW]; exact (Below.refl _ _).alloc (Nat.le_refl _) _
  have c0 : W.cell? ⟨w.heap.size, 0, none⟩ = some (.string ⟨C.shape.toArray⟩) := by rw [← hW]; simp
  have c1 : W.cell? ⟨w.heap.size, 1, none⟩ = some (.slice ao C.ops.length co) := by rw [← hW]; simp
  have c2 : W.cell? ⟨w.heap.size, 2, none⟩ = some (.slice ah C.hans.length ch) := by rw [← hW]; simp
  have c3 : W.cell? ⟨w.heap.size, 3, none⟩ = some (.slice af C.funs.length cf) := by rw [← hW]; simp
  have hWs : w.heap.size + 1 = W.heap.size := by rw [← hW]; simp
  have hH : w.heap.size < W.heap.size := by omega
  clear hW
  have HA := hid (fun (V : World) => big_any (C.shape.length : Int) 2 V (by omega))
  have HB := hid (fun (V : World) => big_any (C.ops.length : Int) 1 V (by omega))
  have hs : (Cd.big C.shape.length 2).length = 2 := Cd.big_length _ _
  have ht : (Cd.big C.ops.length 1).length = 1 := Cd.big_length _ _
  generalize hy : Cd.big C.shape.length 2 = y at hs HA
  generalize hz : Cd.big C.ops.length 1 = z at ht HB
  have HY := hid hy
  have HZ := hid hz
  clear hy hz
  have kA := fun (W : World) => run_string_add_sum (P := Try.prog) W ⟨#[69, 70, 49]⟩ ⟨y.toArray⟩ (by rw [size_mk, size_mk']; simp; omega)
  have kB := fun (W : World) => run_string_add_sum (P := Try.prog) W (⟨#[69, 70, 49]⟩ ++ ⟨y.toArray⟩) ⟨C.shape.toArray⟩ (by simp only [ByteArray.size_append, size_mk, size_mk']; simp; omega)
  have kC := fun (W : World) => run_string_add_sum (P := Try.prog) W (⟨#[69, 70, 49]⟩ ++ ⟨y.toArray⟩ ++ ⟨C.shape.toArray⟩) ⟨z.toArray⟩ (by simp only [ByteArray.size_append, size_mk, size_mk']; simp; omega)
  refine wp_region_held_drew (S := (fun w' => w'.cell? ⟨w.heap.size, 0, none⟩ = some (.string ⟨C.shape.toArray⟩) ∧ w'.cell? ⟨w.heap.size, 1, none⟩ = some (.slice ao C.ops.length co))) (by kernel_rfl) (by first | trivial | (dsimp only; go_keep)) (fun hHeld => ?_)
  refine wpAnyH_take (i := 0) (v := ?vv0a) rfl (by kernel_rfl) (by kernel_rfl) (by kernel_rfl) (fun _ _ _ h => h) (Or.inl ⟨by rfl, ?yy0a⟩) (by assumption) ?rr0a
  case yy0a => (intro w' hSw; (try dsimp only at hSw); go_simp; (try with_reducible rfl))
  try simp only [Act.put, List.setIfInBounds_toArray, List.set_cons_zero, List.set_cons_succ]
  refine wpAnyH_take (i := 1) (v := ?vv1a) rfl (by kernel_rfl) (by kernel_rfl) (by kernel_rfl) (fun _ _ _ h => h) (Or.inl ⟨by rfl, ?yy1a⟩) (by assumption) ?rr1a
  case yy1a => (intro w' hSw; (try dsimp only at hSw); go_simp; (try with_reducible rfl))
  try simp only [Act.put, List.setIfInBounds_toArray, List.set_cons_zero, List.set_cons_succ]
  refine wpAnyH_take (i := 2) (v := ?vv2a) rfl (by kernel_rfl) (by kernel_rfl) (by kernel_rfl) (fun _ _ _ h => h) (Or.inl ⟨by rfl, ?yy2a⟩) (by assumption) ?rr2a
  case yy2a => (intro w' hSw; (try dsimp only at hSw); go_simp; (try with_reducible rfl))
  try simp only [Act.put, List.setIfInBounds_toArray, List.set_cons_zero, List.set_cons_succ]
  refine wpAnyH_take (i := 5) (v := ?vv5a) rfl (by kernel_rfl) (by kernel_rfl) (by kernel_rfl) (fun _ _ _ h => h) (Or.inl ⟨by rfl, ?yy5a⟩) (by assumption) ?rr5a
  case yy5a => (intro w' hSw; (try dsimp only at hSw); go_simp; (try with_reducible rfl))
  try simp only [Act.put, List.setIfInBounds_toArray, List.set_cons_zero, List.set_cons_succ]
  refine wpAnyH_take (i := 6) (v := ?vv6a) rfl (by kernel_rfl) (by kernel_rfl) (by kernel_rfl) (fun _ _ _ h => h) (Or.inl ⟨by rfl, ?yy6a⟩) (by assumption) ?rr6a
  case yy6a => (intro w' hSw; (try dsimp only at hSw); go_simp; (try with_reducible rfl))
  try simp only [Act.put, List.setIfInBounds_toArray, List.set_cons_zero, List.set_cons_succ]
  refine wpAnyH_take (i := 8) (v := ?vv8a) rfl (by kernel_rfl) (by kernel_rfl) (by kernel_rfl) (fun _ _ _ h => h) (Or.inl ⟨by rfl, ?yy8a⟩) (by assumption) ?rr8a
  case yy8a => (intro w' hSw; (try dsimp only at hSw); go_simp; (try with_reducible rfl))
  try simp only [Act.put, List.setIfInBounds_toArray, List.set_cons_zero, List.set_cons_succ]
  refine wpAnyH_take (i := 9) (v := ?vv9a) rfl (by kernel_rfl) (by kernel_rfl) (by kernel_rfl) (fun _ _ _ h => h) (Or.inl ⟨by rfl, ?yy9a⟩) (by assumption) ?rr9a
  case yy9a => (intro w' hSw; (try dsimp only at hSw); go_simp; (try with_reducible rfl))
  try simp only [Act.put, List.setIfInBounds_toArray, List.set_cons_zero, List.set_cons_succ]
  refine wpAnyH_take (i := 10) (v := ?vv10a) rfl (by kernel_rfl) (by kernel_rfl) (by kernel_rfl) (fun _ _ _ h => h) (Or.inl ⟨by rfl, ?yy10a⟩) (by assumption) ?rr10a
  case yy10a => (intro w' hSw; (try dsimp only at hSw); go_simp; (try with_reducible rfl))
  try simp only [Act.put, List.setIfInBounds_toArray, List.set_cons_zero, List.set_cons_succ]
  refine wpAnyH_ready (rs := [3]) (by kernel_rfl) (by simp) (AllReadyH.cons rfl (fun K hK => ?_) AllReadyH.nil)
  go_simp
  refine (HA.out _).mono ?_
  rintro en w1 ⟨rfl, hb1⟩
  have HB1 := hid hb1
  clear hb1
  have k0 := past_cells HB1.out hH c0
  have k1 := past_cells HB1.out hH c1
  have k2 := past_cells HB1.out hH c2
  have k3 := past_cells HB1.out hH c3
  have hH1 : w.heap.size < w1.heap.size := Nat.lt_of_lt_of_le hH HB1.out.size
  dsimp only
  clear hHeld
  refine hK.out _ _ (by first | trivial | (dsimp only; go_keep)) (fun hHeld => ?_)
  clear hK K
  try simp only [Act.put, List.setIfInBounds_toArray, List.set_cons_zero, List.set_cons_succ]
  refine wpAnyH_take (i := 4) (v := ?vv4a) rfl (by kernel_rfl) (by kernel_rfl) (by kernel_rfl) (fun _ _ _ h => h) (Or.inl ⟨by rfl, ?yy4a⟩) (by assumption) ?rr4a
  case yy4a => (intro w' hSw; (try dsimp only at hSw); go_simp; (try with_reducible rfl))
  try simp only [Act.put, List.setIfInBounds_toArray, List.set_cons_zero, List.set_cons_succ]
  refine wpAnyH_take (i := 7) (v := ?vv7a) rfl (by kernel_rfl) (by kernel_rfl) (by kernel_rfl) (fun _ _ _ h => h) (Or.inl ⟨by rfl, ?yy7a⟩) (by assumption) ?rr7a
  case yy7a => (intro w' hSw; (try dsimp only at hSw); go_simp; (try with_reducible rfl))
  try simp only [Act.put, List.setIfInBounds_toArray, List.set_cons_zero, List.set_cons_succ]
  refine wpAnyH_ready (rs := [11]) (by kernel_rfl) (by simp) (AllReadyH.cons rfl (fun K hK => ?_) AllReadyH.nil)
  go_simp
  refine (HB.out _).mono ?_
  rintro en w2 ⟨rfl, hb2⟩
  have HB2 := hid hb2
  clear hb2
  have l0 := past_cells HB2.out hH1 k0
  have l1 := past_cells HB2.out hH1 k1
  have l2 := past_cells HB2.out hH1 k2
  have l3 := past_cells HB2.out hH1 k3
  have hH2 : w.heap.size < w2.heap.size := Nat.lt_of_lt_of_le hH1 HB2.out.size
  dsimp only
  clear hHeld
  refine hK.out _ _ (by first | trivial | (dsimp only; go_keep)) (fun hHeld => ?_)
  clear hK K
  try simp only [Act.put, List.setIfInBounds_toArray, List.set_cons_zero, List.set_cons_succ]
  refine wpAnyH_take (i := 12) (v := ?vv12a) rfl (by kernel_rfl) (by kernel_rfl) (by kernel_rfl) (fun _ _ _ h => h) (Or.inl ⟨by rfl, ?yy12a⟩) (by assumption) ?rr12a
  case yy12a => (intro w' hSw; (try dsimp only at hSw); go_simp; (try with_reducible rfl))
  try simp only [Act.put, List.setIfInBounds_toArray, List.set_cons_zero, List.set_cons_succ]
  refine wpAnyH_ready (rs := [13]) (by kernel_rfl) (by simp) (AllReadyH.cons rfl (fun K hK => ?_) AllReadyH.nil)
  go_simp
  refine upon_bytes_of _ (by simp only [ByteArray.size_append, size_mk, size_mk', maxLen]; simp; omega) ?_
  intro v3 w3 hrow hbel
  have HR := hid hrow
  have HB3 := hid hbel
  clear hrow hbel
  have m0 := past_cells HB3.out (by exact hH2) (by exact l0)
  have m1 := past_cells HB3.out (by exact hH2) (by exact l1)
  have m2 := past_cells HB3.out (by exact hH2) (by exact l2)
  have m3 := past_cells HB3.out (by exact hH2) (by exact l3)
  go_simp
  clear hHeld
  refine hK.out _ _ (by first | trivial | (dsimp only; go_keep)) (fun hHeld => ?_)
  clear hK K
  try simp only [Act.put, List.setIfInBounds_toArray, List.set_cons_zero, List.set_cons_succ]
  refine wpAnyH_take (i := 14) (v := ?vv14a) rfl (by kernel_rfl) (by kernel_rfl) (by kernel_rfl) (fun _ _ _ h => h) (Or.inl ⟨by rfl, ?yy14a⟩) (by assumption) ?rr14a
  case yy14a => (intro w' hSw; (try dsimp only at hSw); go_simp; (try with_reducible rfl))
  try simp only [Act.put, List.setIfInBounds_toArray, List.set_cons_zero, List.set_cons_succ]
  refine wpAnyH_done (by kernel_rfl) ?_ _
  clear hHeld
  have HES : Hid (EnS w w3 (.string ⟨C.shape.toArray⟩) (.slice ao C.ops.length co) (.slice ah C.hans.length ch) (.slice af C.funs.length cf) v3 (A0 C)) := by
    refine ⟨?_, ?_, ⟨m0, m1, m2, m3⟩, ?_⟩
    · refine Below.trans ?_ (HB3.out.mono (Nat.le_of_lt hH2))
      refine Below.trans ?_ (HB2.out.mono (Nat.le_of_lt hH1))
      exact Below.trans HBW.out.drew (HB1.out.mono (Nat.le_of_lt hH))
    · exact Nat.le_trans hH2 HB3.out.size
    · have := HR.out.mono hH2
      rwa [show (⟨#[69, 70, 49]⟩ ++ ⟨y.toArray⟩ ++ ⟨C.shape.toArray⟩ ++ ⟨z.toArray⟩ : ByteArray).data.toList = A0 C by simp [A0, HY.out, HZ.out, Cd.head]] at this
  have HL0 : Hid ((A0 C).length ≤ 65541) := by simp [Hid, A0, Cd.head, Cd.big_length]; omega
  clear HR HB1 HB2 HB3 HBW HY HZ HA HB kA kB kC hs ht c0 c1 c2 c3 k0 k1 k2 k3 l0 l1 l2 l3 hH1 hH2 hWs hH
  go_wp2_with fail
  go_loopw [4, 5] (fun v i wr => ∃ (m : Nat) (l : List UInt8), i = .int .i64 m ∧ m ≤ C.ops.length ∧ Hid (EnS w wr (.string ⟨C.shape.toArray⟩) (.slice ao C.ops.length co) (.slice ah C.hans.length ch) (.slice af C.funs.length cf) v l) ∧ Hid (l = A0 C ++ (C.ops.take m).flatMap Cd.opB ∧ l.length ≤ 65541 + m * 22 ∧ ∀ x ∈ C.ops.take m, Cd.opOk x = true)) (fun _ i _ => C.ops.length - (intOf i).toNat)
  case atStart => exact ⟨0, A0 C, rfl, Nat.zero_le _, HES, by simp, by have := HL0.out; omega, by simp⟩
  case round =>
    obtain ⟨m, l, rfl, hm, HS, HL⟩ := hrel
    obtain ⟨hb0, hz0, ⟨c0, c1, c2, c3⟩, hrow⟩ := HS.out
    by_cases hlt : m < C.ops.length
    · obtain ⟨o, ho, htk, hmem, hne⟩ := at_some hlt
      obtain ⟨g, k, hao, hcell⟩ := HX1.out hne
      subst hao
      have e0 := kc hb0 (hcell m o ho).1
      have e1 := kc hb0 (hcell m o ho).2
      have hsn := size_mk o.name
      have HT := hid htk
      have HMm := hid hmem
      clear hcell hb0 hrow ho htk hmem hne
      by_cases hn : o.name.length ≤ 20
      · go_upto_region 10 with fail
        generalize hV : (wr.alloc _ : World) = V
        have HBV : Hid (Below wr.heap.size wr V) := by rw [← hV]; exact (Below.refl _ _).alloc (Nat.le_refl _) _
        have d0 : V.cell? ⟨wr.heap.size, 0, none⟩ = some (.string ⟨o.name.toArray⟩) := by rw [← hV]; simp
        have d1 : V.cell? ⟨wr.heap.size, 1, none⟩ = some (.bool o.once) := by rw [← hV]; simp
        have hHV : wr.heap.size < V.heap.size := by rw [← hV]; simp
        clear hV e0 e1 c0 c1 c2 c3
        have HSV := hid (HS.out.keep HBV.out)
        have HNE := hid (HS.out.2.2.2.ne (.inl (Nat.le_refl _)))
        have HA := hid (fun (V : World) => big_any (o.name.length : Int) 1 V (by omega))
        have hs : (Cd.big o.name.length 1).length = 1 := Cd.big_length _ _
        have hf : (Cd.flag o.once).length = 1 := rfl
        have HF := hid (fun (V : World) => flag_any o.once V)
        generalize hy : Cd.big o.name.length 1 = y2 at hs HA
        generalize hz : Cd.flag o.once = z2 at hf HF
        have HO : Hid (Cd.opB o = y2 ++ o.name ++ z2) := by rw [← hy, ← hz]; rfl
        clear hy hz
        have hl2 : l.length ≤ 80000 := by have := HL.out.2.1; omega
        have kA := fun (W : World) => run_string_add_sum (P := Try.prog) W ⟨y2.toArray⟩ ⟨o.name.toArray⟩ (by rw [size_mk, size_mk]; omega)
        have kB := fun (W : World) => run_string_add_sum (P := Try.prog) W (⟨y2.toArray⟩ ++ ⟨o.name.toArray⟩) ⟨z2.toArray⟩ (by simp only [ByteArray.size_append, size_mk]; omega)
        go_region_held3 (fun w' => w'.cell? ⟨wr.heap.size, 0, none⟩ = some (.string ⟨o.name.toArray⟩) ∧ w'.cell? ⟨wr.heap.size, 1, none⟩ = some (.bool o.once)) (go_keep)
          ((first
            | (go_at_call_of 10 (Value.int .i64 (o.name.length : Int)); refine (HA.out _).mono ?_; rintro en w1 ⟨rfl, hb1⟩
               have HB1 := hid hb1
               clear hb1
               have k0 := past_cells HB1.out hHV d0
               have k1 := past_cells HB1.out hHV d1
               have HS1 := hid (HSV.out.keep (by refine Below.trans ?_ HB1.out; repeat (with_reducible (first | exact Below.refl _ _ | apply Below.drew))))
               have hH1 : wr.heap.size < w1.heap.size := Nat.lt_of_lt_of_le hHV HB1.out.size)
            | (go_at_call 11; refine (HF.out _).mono ?_; rintro en w2 ⟨rfl, rfl⟩)
            | (refine step_bytes_str (by rfl) _ _ (by rfl) (w.heap.size + 1) _ l (⟨y2.toArray⟩ ++ ⟨o.name.toArray⟩ ++ ⟨z2.toArray⟩) (by rfl) (by rfl) (by exact HS1.out.2.2.2) (by exact HS1.out.2.1) (by simp only [ByteArray.size_append, size_mk]; omega) ?_; intro v3 w3 hrow hbel hgr hat
               have HR := hid hrow
               have HB3 := hid hbel
               have q0 := hgr.cell (by exact k0) HNE.out
               have q1 := hgr.cell (by exact k1) HNE.out
               clear hrow hbel hgr hat)))
        go_wp2_with fail
        have HE := hid (HS1.out.app HR.out (by refine Below.trans ?_ HB3.out; repeat (with_reducible (first | exact Below.refl _ _ | apply Below.drew))))
        go_roundw
        case rel =>
          refine ⟨m + 1, _, by go_num, by omega, HE, ?_, ?_, ?_⟩
          · rw [HT.out, HL.out.1]; simp [HO.out]
          · have := HL.out.2.1; simp; omega
          · rw [HT.out]
            intro x hx
            rcases List.mem_append.1 hx with hx | hx
            · exact HL.out.2.2 x hx
            · simp at hx; subst hx; simpa [Cd.opOk] using hn
        case measure => simp [intOf]; omega
      · go_wp2_with fail
        refine bodyPost_ret (v := .tuple #[.string ⟨#[]⟩, .int .i64 14]) (by simp [results, Try.results6, go_sem]) rfl ⟨(enc_bad (bad_op HMm.out (by simp [Cd.opOk]; omega))).symm, HS.out.1.trans (((Below.refl _ _).alloc (Nat.le_refl _) _).mono HS.out.1.size)⟩
    · have em : m = C.ops.length := by omega
      subst em
      rw [List.take_length] at HL
      have HL1 : Hid (l.length ≤ 71151) := by have := HL.out.2.1; simp [Hid]; omega
      have HS1 : Hid (l = A0 C ++ C.ops.flatMap Cd.opB ∧ ∀ x ∈ C.ops, Cd.opOk x = true) := ⟨HL.out.1, HL.out.2.2⟩
      clear HL hrow hb0
      have HNL := hid (fun (V : World) => big_any (C.hans.length : Int) 2 V (by omega))
      have hs : (Cd.big C.hans.length 2).length = 2 := Cd.big_length _ _
      generalize hy : Cd.big C.hans.length 2 = y2 at hs HNL
      have HY := hid hy
      clear hy
      have hl1 := HL1.out
      go_wp2_with (first
        | (go_at_call 10; refine (HNL.out _).mono ?_; rintro en w1 ⟨rfl, hb1⟩
           have HSa := hid (HS.out.keep hb1)
           have k0 := HSa.out.2.2.1.1
           have k1 := HSa.out.2.2.1.2.1
           have k2 := HSa.out.2.2.1.2.2.1
           have k3 := HSa.out.2.2.1.2.2.2
           clear hb1)
        | (refine wpList_bytes_str (by rfl) (.tmp 80) (.tmp 84) (by rfl) (w.heap.size + 1) _ l ⟨y2.toArray⟩ (by rfl) (by rfl) (by exact HSa.out.2.2.2) (by exact HSa.out.2.1) (by rw [size_mk]; omega) ?_; intro v4 w4 hrow hbel hgr hat
           have HSb := hid (HSa.out.app hrow hbel)
           have r0 := HSb.out.2.2.1.1
           have r1 := HSb.out.2.2.1.2.1
           have r2 := HSb.out.2.2.1.2.2.1
           have r3 := HSb.out.2.2.1.2.2.2
           clear hrow hbel hgr hat)
        | fail)
      have HA2 : Hid (l ++ y2 = A2 C) := by rw [Hid, A2, HS1.out.1, HY.out]
      have HL2 : Hid ((A2 C).length ≤ 71153) := by rw [Hid, ← HA2.out]; simp; omega
      have HO1 := hid HS1.out.2
      have HSc : Hid (EnS w w4 (.string ⟨C.shape.toArray⟩) (.slice ao C.ops.length co) (.slice ah C.hans.length ch) (.slice af C.funs.length cf) v4 (A2 C)) := by
        have := HSb.out
        rwa [HA2.out] at this
      clear HA2 HS1 HSb HSa HS HY HNL hs hl1 HL1 k0 k1 k2 k3 r0 r1 r2 r3 c0 c1 c2 c3 HX1
      go_loopw [4, 7] (fun v i wr => ∃ (m : Nat) (l : List UInt8), i = .int .i64 m ∧ m ≤ C.hans.length ∧ Hid (EnS w wr (.string ⟨C.shape.toArray⟩) (.slice ao C.ops.length co) (.slice ah C.hans.length ch) (.slice af C.funs.length cf) v l) ∧ Hid (l = A2 C ++ (C.hans.take m).flatMap Cd.hanB ∧ l.length ≤ 71153 + m * 257 ∧ ∀ x ∈ C.hans.take m, Cd.hanOk x = true)) (fun _ i _ => C.hans.length - (intOf i).toNat)
      case atStart => exact ⟨0, A2 C, rfl, Nat.zero_le _, HSc, by simp, by have := HL2.out; omega, by simp⟩
      case round =>
        obtain ⟨m, l, rfl, hm, HS, HL⟩ := hrel
        obtain ⟨hb0, hz0, ⟨c0, c1, c2, c3⟩, hrow⟩ := HS.out
        by_cases hlt : m < C.hans.length
        · obtain ⟨o, ho, htk, hmem, hne⟩ := at_some hlt
          obtain ⟨g, k, hao, hcell⟩ := HX2.out hne
          subst hao
          have e0 := kc hb0 (hcell m o ho).1
          obtain ⟨u, e1, hiM⟩ := (hcell m o ho).2
          have e1 := kc hb0 e1
          obtain ⟨ai, ci, rfl, hic, hix⟩ := hiM
          have HIX := hid hix
          have HT := hid htk
          have HMm := hid hmem
          clear hcell hb0 hrow ho htk hmem hne hix
          by_cases hn : o.ops.length ≤ 255
          · go_upto_region 18 with fail
            have HV := hid (EnL.start (cs := [.bool o.shallow, .slice ai o.ops.length ci]) (t := 50) HS.out)
            generalize hV : (wr.alloc _ : World) = V at HV
            clear hV e0 e1 c0 c1 c2 c3
            have d0 := HV.out.2.2.2.1 0 _ rfl
            have d1 := HV.out.2.2.2.1 1 _ rfl
            generalize hHn : wr.heap.size = H at HV d0 d1
            have HF := hid (fun (V : World) => flag_any o.shallow V)
            have HA := hid (fun (V : World) => big_any (o.ops.length : Int) 1 V (by omega))
            have hs : (Cd.big o.ops.length 1).length = 1 := Cd.big_length _ _
            have hf : (Cd.flag o.shallow).length = 1 := rfl
            generalize hy : Cd.big o.ops.length 1 = y2 at hs HA
            generalize hz : Cd.flag o.shallow = z2 at hf HF
            have HO : Hid (Cd.hanB o = z2 ++ y2 ++ o.ops.map Cd.low) := by rw [← hy, ← hz]; rfl
            clear hy hz
            have hl2 : l.length ≤ 20000000 := by have := HL.out.2.1; omega
            have kA := fun (W : World) => run_string_add_sum (P := Try.prog) W ⟨z2.toArray⟩ ⟨y2.toArray⟩ (by rw [size_mk, size_mk]; omega)
            go_region_held3 (fun w' => w'.cell? ⟨H, 0, none⟩ = some (.bool o.shallow) ∧ w'.cell? ⟨H, 1, none⟩ = some (.slice ai o.ops.length ci)) (go_keep)
              ((first
                | (go_at_call 11; refine (HF.out _).mono ?_; rintro en w2 ⟨rfl, rfl⟩)
                | (go_at_call 10; refine (HA.out _).mono ?_; rintro en w1 ⟨rfl, hb1⟩
                   have HV1 := hid ((show EnL w _ _ _ _ _ _ _ _ _ by repeat (with_reducible (first | exact HV.out | apply EnL.drew))).keep hb1)
                   clear hb1
                   have k0 := HV1.out.2.2.2.1 0 _ rfl
                   have k1 := HV1.out.2.2.2.1 1 _ rfl)
                | (refine step_bytes_str (by rfl) _ _ (by rfl) (w.heap.size + 1) _ l (⟨z2.toArray⟩ ++ ⟨y2.toArray⟩) (by rfl) (by rfl) (by exact HV1.out.1.2.2.2) (by exact HV1.out.1.2.1) (by simp only [ByteArray.size_append, size_mk]; omega) ?_; intro v3 w3 hrow hbel hgr hat
                   have HV3 := hid (HV1.out.app hrow hbel hgr hat)
                   have q0 := HV3.out.2.2.2.1 0 _ rfl
                   have q1 := HV3.out.2.2.2.1 1 _ rfl
                   clear hrow hbel hgr hat)))
            go_wp2_with fail
            have HV4 : Hid (EnL w w3 (.string ⟨C.shape.toArray⟩) (.slice ao C.ops.length co) (.slice (some ⟨g, k, none⟩) C.hans.length ch) (.slice af C.funs.length cf) v3 (l ++ (z2 ++ y2)) H [.bool o.shallow, .slice ai o.ops.length ci]) := by
              have := HV3.out
              rw [Hid]
              simpa using this
            clear HV3 HV1 HV kA HA HF d0 d1 k0 k1 q0 q1
            go_loopw [4, 9] (fun v i wq => ∃ (n : Nat) (l2 : List UInt8), i = .int .i64 n ∧ n ≤ o.ops.length ∧ Hid (EnL w wq (.string ⟨C.shape.toArray⟩) (.slice ao C.ops.length co) (.slice (some ⟨g, k, none⟩) C.hans.length ch) (.slice af C.funs.length cf) v l2 H [.bool o.shallow, .slice ai o.ops.length ci]) ∧ Hid (l2 = l ++ (z2 ++ y2) ++ (o.ops.take n).map Cd.low ∧ ∀ x ∈ o.ops.take n, Cd.fits x 255 = true)) (fun _ i _ => o.ops.length - (intOf i).toNat)
            case atStart => exact ⟨0, _, rfl, Nat.zero_le _, HV4, by simp, by simp⟩
            case round =>
              obtain ⟨n, l2, rfl, hnl, HSq, HLq⟩ := hrel
              have d0 := HSq.out.2.2.2.1 0 _ rfl
              have d1 := HSq.out.2.2.2.1 1 _ rfl
              obtain ⟨x0, x1, x2, x3⟩ := HSq.out.1.2.2.1
              by_cases hlt2 : n < o.ops.length
              · obtain ⟨x, hx, htk2, hmem2, hne2⟩ := at_some hlt2
                obtain ⟨gi, ki, hai, hcell2⟩ := HIX.out hne2
                subst hai
                have e2 := kc HSq.out.1.1 (hcell2 n x hx)
                have HT2 := hid htk2
                have HM2 := hid hmem2
                clear hcell2 hx htk2 hmem2 hne2
                cases hfx : Cd.fits x 255 with
                | true =>
                  have hx0 : 0 ≤ x := by simp [Cd.fits] at hfx; omega
                  have hx1 : x ≤ 255 := by simp [Cd.fits] at hfx; omega
                  have hl3 : l2.length ≤ 30000000 := by rw [HLq.out.1]; simp; omega
                  go_wp2_with (first
                    | (go_at_call 12; refine (fits_any _ _ _).mono ?_; rintro en w5 ⟨rfl, hw5⟩; have hw6 := hw5.symm; subst hw6)
                    | (refine wpList_bytes_one (by rfl) _ _ (by rfl) (w.heap.size + 1) _ l2 ⟨wr.heap.size, 0, none⟩ (Cd.low x) 1 (by rfl) (by rfl) (by simp [low_int]; omega) (by exact (HSq.out.keep ((Below.refl _ _).alloc (Nat.le_refl _) _)).1.2.2.2) (by exact (HSq.out.keep ((Below.refl _ _).alloc (Nat.le_refl _) _)).1.2.1) (by omega) ?_; intro v5 w5 hrow hbel hgr hat
                       have HV5 := hid ((HSq.out.keep ((Below.refl _ _).alloc (Nat.le_refl _) _)).app hrow hbel hgr hat)
                       clear hrow hbel hgr hat)
                    | fail)
                  go_roundw
                  case rel =>
                    refine ⟨n + 1, _, by go_num, by omega, HV5, ?_, ?_⟩
                    · rw [HT2.out, HLq.out.1]; simp
                    · rw [HT2.out]
                      intro z hz
                      rcases List.mem_append.1 hz with hz | hz
                      · exact HLq.out.2 z hz
                      · simp at hz; subst hz; exact hfx
                  case measure => simp [intOf]; omega
                | false =>
                  go_wp2_with (first
                    | (go_at_call 12; refine (fits_any _ _ _).mono ?_; rintro en w5 ⟨rfl, hw5⟩; have hw6 := hw5.symm; subst hw6)
                    | fail)
                  refine bodyPost_ret (v := .tuple #[.string ⟨#[]⟩, .int .i64 14]) (by simp [results, Try.results6, go_sem]) rfl ⟨(enc_bad (bad_han HMm.out (bad_num HM2.out hfx))).symm, HSq.out.1.1⟩
              · have en : n = o.ops.length := by omega
                subst en
                rw [List.take_length] at HLq
                go_wp2_with fail
                go_roundw
                case rel =>
                  refine ⟨m + 1, _, by go_num, by omega, hid HSq.out.1, ?_, ?_, ?_⟩
                  · rw [HT.out, HLq.out.1, HL.out.1]; simp [HO.out]
                  · have := HL.out.2.1; rw [HLq.out.1]; simp; omega
                  · rw [HT.out]
                    intro x hx
                    rcases List.mem_append.1 hx with hx | hx
                    · exact HL.out.2.2 x hx
                    · simp at hx; subst hx; exact han_good hn HLq.out.2
                case measure => simp [intOf]; omega
          · go_wp2_with fail
            refine bodyPost_ret (v := .tuple #[.string ⟨#[]⟩, .int .i64 14]) (by simp [results, Try.results6, go_sem]) rfl ⟨(enc_bad (bad_han HMm.out (by simp [Cd.hanOk]; omega))).symm, HS.out.1.trans (((Below.refl _ _).alloc (Nat.le_refl _) _).mono HS.out.1.size)⟩
        · have em : m = C.hans.length := by omega
          subst em
          rw [List.take_length] at HL
          have HL1 : Hid (l.length ≤ 20000000) := by have := HL.out.2.1; simp [Hid]; omega
          have HS1 : Hid (l = A2 C ++ C.hans.flatMap Cd.hanB ∧ ∀ x ∈ C.hans, Cd.hanOk x = true) := ⟨HL.out.1, HL.out.2.2⟩
          clear HL hrow hb0
          have HNL := hid (fun (V : World) => big_any (C.funs.length : Int) 2 V (by omega))
          have hs : (Cd.big C.funs.length 2).length = 2 := Cd.big_length _ _
          generalize hy : Cd.big C.funs.length 2 = y2 at hs HNL
          have HY := hid hy
          clear hy
          have hl1 := HL1.out
          go_wp2_with (first
            | (go_at_call 10; refine (HNL.out _).mono ?_; rintro en w1 ⟨rfl, hb1⟩
               have HSa := hid (HS.out.keep hb1)
               have k0 := HSa.out.2.2.1.1
               have k1 := HSa.out.2.2.1.2.1
               have k2 := HSa.out.2.2.1.2.2.1
               have k3 := HSa.out.2.2.1.2.2.2
               clear hb1)
            | (refine wpList_bytes_str (by rfl) _ _ (by rfl) (w.heap.size + 1) _ l ⟨y2.toArray⟩ (by rfl) (by rfl) (by exact HSa.out.2.2.2) (by exact HSa.out.2.1) (by rw [size_mk]; omega) ?_; intro v4 w4 hrow hbel hgr hat
               have HSb := hid (HSa.out.app hrow hbel)
               have r0 := HSb.out.2.2.1.1
               have r1 := HSb.out.2.2.1.2.1
               have r2 := HSb.out.2.2.1.2.2.1
               have r3 := HSb.out.2.2.1.2.2.2
               clear hrow hbel hgr hat)
            | fail)
          have HA2 : Hid (l ++ y2 = A4 C) := by rw [Hid, A4, HS1.out.1, HY.out]
          have HL2 : Hid ((A4 C).length ≤ 20000002) := by rw [Hid, ← HA2.out]; simp; omega
          have HO2 := hid HS1.out.2
          have HSc : Hid (EnS w w4 (.string ⟨C.shape.toArray⟩) (.slice ao C.ops.length co) (.slice ah C.hans.length ch) (.slice af C.funs.length cf) v4 (A4 C)) := by
            have := HSb.out
            rwa [HA2.out] at this
          clear HA2 HS1 HSb HSa HS HY HNL hs hl1 HL1 k0 k1 k2 k3 r0 r1 r2 r3 c0 c1 c2 c3 HX2
          go_loopw [4, 10] (fun v i wr => ∃ (m : Nat) (l : List UInt8), i = .int .i64 m ∧ m ≤ C.funs.length ∧ Hid (EnS w wr (.string ⟨C.shape.toArray⟩) (.slice ao C.ops.length co) (.slice ah C.hans.length ch) (.slice af C.funs.length cf) v l) ∧ Hid (l = A4 C ++ (C.funs.take m).flatMap Cd.funB ∧ l.length ≤ 20000002 + m * 600000 ∧ ∀ x ∈ C.funs.take m, Cd.funOk x = true)) (fun _ i _ => C.funs.length - (intOf i).toNat)
          case atStart => exact ⟨0, A4 C, rfl, Nat.zero_le _, HSc, by simp, by have := HL2.out; omega, by simp⟩
          case round =>
            obtain ⟨m, l, rfl, hm, HS, HL⟩ := hrel
            obtain ⟨hb0, hz0, ⟨c0, c1, c2, c3⟩, hrow⟩ := HS.out
            by_cases hlt : m < C.funs.length
            · obtain ⟨o, ho, htk, hmem, hne⟩ := at_some hlt
              obtain ⟨g, k, hao, hcell⟩ := HX3.out hne
              subst hao
              have e0 := kc hb0 (hcell m o ho).1
              have e1 := kc hb0 (hcell m o ho).2.1
              obtain ⟨u, e2, hiM⟩ := (hcell m o ho).2.2
              have e2 := kc hb0 e2
              obtain ⟨ai, ci, rfl, hic, hix⟩ := hiM
              have HIX := hid hix
              have HT := hid htk
              have HMm := hid hmem
              have HBA := hid (((Below.refl w.heap.size wr).alloc hb0.size (.cells #[.int .i64 o.free, .int .i64 o.slots, .slice ai o.ins.length ci] 35)))
              clear hcell hb0 hrow ho htk hmem hne hix
              by_cases hn : o.ins.length ≤ 65535 ∧ Cd.fits o.free 65535 = true ∧ Cd.fits o.slots 65535 = true
              · obtain ⟨hn, hf0, hf1⟩ := hn
                go_upto_region 32 with (first
                  | (go_at_call 12; refine (fits_any _ _ _).mono ?_; rintro en w5 ⟨rfl, hw5⟩; have hw6 := hw5.symm; subst hw6)
                  | fail)
                have HV := hid (EnL.start (cs := [.int .i64 o.free, .int .i64 o.slots, .slice ai o.ins.length ci]) (t := 35) HS.out)
                generalize hV : (wr.alloc _ : World) = V at HV
                clear hV e0 e1 e2 c0 c1 c2 c3 HBA
                have d0 := HV.out.2.2.2.1 0 _ rfl
                have d1 := HV.out.2.2.2.1 1 _ rfl
                have d2 := HV.out.2.2.2.1 2 _ rfl
                generalize hHn : wr.heap.size = H at HV d0 d1 d2
                have HA := hid (fun (V : World) => big_any o.free 2 V (by omega))
                have HB := hid (fun (V : World) => big_any o.slots 2 V (by omega))
                have HC2 := hid (fun (V : World) => big_any (o.ins.length : Int) 2 V (by omega))
                have hsA : (Cd.big o.free 2).length = 2 := Cd.big_length _ _
                have hsB : (Cd.big o.slots 2).length = 2 := Cd.big_length _ _
                have hsC : (Cd.big o.ins.length 2).length = 2 := Cd.big_length _ _
                generalize hyA : Cd.big o.free 2 = yA at hsA HA
                generalize hyB : Cd.big o.slots 2 = yB at hsB HB
                generalize hyC : Cd.big o.ins.length 2 = yC at hsC HC2
                have HO : Hid (Cd.funB o = yA ++ yB ++ yC ++ o.ins.flatMap Cd.insB) := by rw [← hyA, ← hyB, ← hyC]; rfl
                clear hyA hyB hyC
                have hl2 : l.length ≤ 40000000000 := by have := HL.out.2.1; omega
                have kA := fun (W : World) => run_string_add_sum (P := Try.prog) W ⟨yA.toArray⟩ ⟨yB.toArray⟩ (by rw [size_mk, size_mk]; omega)
                have kB := fun (W : World) => run_string_add_sum (P := Try.prog) W (⟨yA.toArray⟩ ++ ⟨yB.toArray⟩) ⟨yC.toArray⟩ (by simp only [ByteArray.size_append, size_mk]; omega)
                refine wp_region_held_drew (S := (fun w' => w'.cell? ⟨H, 0, none⟩ = some (.int .i64 o.free) ∧ w'.cell? ⟨H, 1, none⟩ = some (.int .i64 o.slots) ∧ w'.cell? ⟨H, 2, none⟩ = some (.slice ai o.ins.length ci))) (by kernel_rfl) (by first | trivial | (dsimp only; go_keep)) (fun hHeld => ?_)
                refine wpAnyH_take (i := 0) (v := ?vv0b) rfl (by kernel_rfl) (by kernel_rfl) (by kernel_rfl) (fun _ _ _ h => h) (Or.inl ⟨by rfl, ?yy0b⟩) (by assumption) ?rr0b
                case yy0b => (intro w' hSw; (try dsimp only at hSw); go_simp; (try with_reducible rfl))
                try simp only [Act.put, List.setIfInBounds_toArray, List.set_cons_zero, List.set_cons_succ]
                refine wpAnyH_take (i := 1) (v := ?vv1b) rfl (by kernel_rfl) (by kernel_rfl) (by kernel_rfl) (fun _ _ _ h => h) (Or.inl ⟨by rfl, ?yy1b⟩) (by assumption) ?rr1b
                case yy1b => (intro w' hSw; (try dsimp only at hSw); go_simp; (try with_reducible rfl))
                try simp only [Act.put, List.setIfInBounds_toArray, List.set_cons_zero, List.set_cons_succ]
                refine wpAnyH_take (i := 2) (v := ?vv2b) rfl (by kernel_rfl) (by kernel_rfl) (by kernel_rfl) (fun _ _ _ h => h) (Or.inl ⟨by rfl, ?yy2b⟩) (by assumption) ?rr2b
                case yy2b => (intro w' hSw; (try dsimp only at hSw); go_simp; (try with_reducible rfl))
                try simp only [Act.put, List.setIfInBounds_toArray, List.set_cons_zero, List.set_cons_succ]
                refine wpAnyH_take (i := 4) (v := ?vv4b) rfl (by kernel_rfl) (by kernel_rfl) (by kernel_rfl) (fun _ _ _ h => h) (Or.inl ⟨by rfl, ?yy4b⟩) (by assumption) ?rr4b
                case yy4b => (intro w' hSw; (try dsimp only at hSw); go_simp; (try with_reducible rfl))
                try simp only [Act.put, List.setIfInBounds_toArray, List.set_cons_zero, List.set_cons_succ]
                refine wpAnyH_take (i := 5) (v := ?vv5b) rfl (by kernel_rfl) (by kernel_rfl) (by kernel_rfl) (fun _ _ _ h => h) (Or.inl ⟨by rfl, ?yy5b⟩) (by assumption) ?rr5b
                case yy5b => (intro w' hSw; (try dsimp only at hSw); go_simp; (try with_reducible rfl))
                try simp only [Act.put, List.setIfInBounds_toArray, List.set_cons_zero, List.set_cons_succ]
                refine wpAnyH_take (i := 8) (v := ?vv8b) rfl (by kernel_rfl) (by kernel_rfl) (by kernel_rfl) (fun _ _ _ h => h) (Or.inl ⟨by rfl, ?yy8b⟩) (by assumption) ?rr8b
                case yy8b => (intro w' hSw; (try dsimp only at hSw); go_simp; (try with_reducible rfl))
                try simp only [Act.put, List.setIfInBounds_toArray, List.set_cons_zero, List.set_cons_succ]
                refine wpAnyH_take (i := 9) (v := ?vv9b) rfl (by kernel_rfl) (by kernel_rfl) (by kernel_rfl) (fun _ _ _ h => h) (Or.inl ⟨by rfl, ?yy9b⟩) (by assumption) ?rr9b
                case yy9b => (intro w' hSw; (try dsimp only at hSw); go_simp; (try with_reducible rfl))
                try simp only [Act.put, List.setIfInBounds_toArray, List.set_cons_zero, List.set_cons_succ]
                refine wpAnyH_take (i := 10) (v := ?vv10b) rfl (by kernel_rfl) (by kernel_rfl) (by kernel_rfl) (fun _ _ _ h => h) (Or.inl ⟨by rfl, ?yy10b⟩) (by assumption) ?rr10b
                case yy10b => (intro w' hSw; (try dsimp only at hSw); go_simp; (try with_reducible rfl))
                try simp only [Act.put, List.setIfInBounds_toArray, List.set_cons_zero, List.set_cons_succ]
                refine wpAnyH_ready (rs := [3]) (by kernel_rfl) (by simp) (AllReadyH.cons rfl (fun K hK => ?_) AllReadyH.nil)
                go_simp
                refine (HA.out _).mono ?_
                rintro en w1 ⟨rfl, hb1⟩
                have HV1 := hid ((show EnL w _ _ _ _ _ _ _ _ _ by repeat (with_reducible (first | exact HV.out | apply EnL.drew))).keep hb1)
                clear hb1
                have k0 := HV1.out.2.2.2.1 0 _ rfl
                have k1 := HV1.out.2.2.2.1 1 _ rfl
                have k2 := HV1.out.2.2.2.1 2 _ rfl
                dsimp only
                clear hHeld
                refine hK.out _ _ (by first | trivial | (dsimp only; go_keep)) (fun hHeld => ?_)
                clear hK K
                try simp only [Act.put, List.setIfInBounds_toArray, List.set_cons_zero, List.set_cons_succ]
                refine wpAnyH_ready (rs := [6]) (by kernel_rfl) (by simp) (AllReadyH.cons rfl (fun K hK => ?_) AllReadyH.nil)
                go_simp
                refine (HB.out _).mono ?_
                rintro en w2 ⟨rfl, hb1⟩
                have HV2 := hid ((show EnL w _ _ _ _ _ _ _ _ _ by repeat (with_reducible (first | exact HV1.out | apply EnL.drew))).keep hb1)
                clear hb1
                have j0 := HV2.out.2.2.2.1 0 _ rfl
                have j1 := HV2.out.2.2.2.1 1 _ rfl
                have j2 := HV2.out.2.2.2.1 2 _ rfl
                dsimp only
                clear hHeld
                refine hK.out _ _ (by first | trivial | (dsimp only; go_keep)) (fun hHeld => ?_)
                clear hK K
                try simp only [Act.put, List.setIfInBounds_toArray, List.set_cons_zero, List.set_cons_succ]
                refine wpAnyH_take (i := 7) (v := ?vv7b) rfl (by kernel_rfl) (by kernel_rfl) (by kernel_rfl) (fun _ _ _ h => h) (Or.inl ⟨by rfl, ?yy7b⟩) (by assumption) ?rr7b
                case yy7b => (intro w' hSw; (try dsimp only at hSw); go_simp; (try with_reducible rfl))
                try simp only [Act.put, List.setIfInBounds_toArray, List.set_cons_zero, List.set_cons_succ]
                refine wpAnyH_ready (rs := [11]) (by kernel_rfl) (by simp) (AllReadyH.cons rfl (fun K hK => ?_) AllReadyH.nil)
                go_simp
                refine (HC2.out _).mono ?_
                rintro en w3 ⟨rfl, hb1⟩
                have HV3 := hid ((show EnL w _ _ _ _ _ _ _ _ _ by repeat (with_reducible (first | exact HV2.out | apply EnL.drew))).keep hb1)
                clear hb1
                have i0 := HV3.out.2.2.2.1 0 _ rfl
                have i1 := HV3.out.2.2.2.1 1 _ rfl
                have i2 := HV3.out.2.2.2.1 2 _ rfl
                dsimp only
                clear hHeld
                refine hK.out _ _ (by first | trivial | (dsimp only; go_keep)) (fun hHeld => ?_)
                clear hK K
                try simp only [Act.put, List.setIfInBounds_toArray, List.set_cons_zero, List.set_cons_succ]
                refine wpAnyH_take (i := 12) (v := ?vv12b) rfl (by kernel_rfl) (by kernel_rfl) (by kernel_rfl) (fun _ _ _ h => h) (Or.inl ⟨by rfl, ?yy12b⟩) (by assumption) ?rr12b
                case yy12b => (intro w' hSw; (try dsimp only at hSw); go_simp; (try with_reducible rfl))
                try simp only [Act.put, List.setIfInBounds_toArray, List.set_cons_zero, List.set_cons_succ]
                refine wpAnyH_ready (rs := [13]) (by kernel_rfl) (by simp) (AllReadyH.cons rfl (fun K hK => ?_) AllReadyH.nil)
                refine step_bytes_str (by rfl) _ _ (by rfl) (w.heap.size + 1) _ l (⟨yA.toArray⟩ ++ ⟨yB.toArray⟩ ++ ⟨yC.toArray⟩) (by rfl) (by rfl) (by exact HV3.out.1.2.2.2) (by exact HV3.out.1.2.1) (by simp only [ByteArray.size_append, size_mk]; omega) ?_
                intro v4 w4 hrow hbel hgr hat
                have HV4 := hid (HV3.out.app hrow hbel hgr hat)
                have q0 := HV4.out.2.2.2.1 0 _ rfl
                have q1 := HV4.out.2.2.2.1 1 _ rfl
                have q2 := HV4.out.2.2.2.1 2 _ rfl
                clear hrow hbel hgr hat
                clear hHeld
                refine hK.out _ _ (by first | trivial | (dsimp only; go_keep)) (fun hHeld => ?_)
                clear hK K
                try simp only [Act.put, List.setIfInBounds_toArray, List.set_cons_zero, List.set_cons_succ]
                refine wpAnyH_take (i := 14) (v := ?vv14b) rfl (by kernel_rfl) (by kernel_rfl) (by kernel_rfl) (fun _ _ _ h => h) (Or.inl ⟨by rfl, ?yy14b⟩) (by assumption) ?rr14b
                case yy14b => (intro w' hSw; (try dsimp only at hSw); go_simp; (try with_reducible rfl))
                try simp only [Act.put, List.setIfInBounds_toArray, List.set_cons_zero, List.set_cons_succ]
                refine wpAnyH_done (by kernel_rfl) ?_ _
                clear hHeld
                go_wp2_with fail
                have HV5 : Hid (EnL w w4 (.string ⟨C.shape.toArray⟩) (.slice ao C.ops.length co) (.slice ah C.hans.length ch) (.slice (some ⟨g, k, none⟩) C.funs.length cf) v4 (l ++ (yA ++ yB ++ yC)) H [.int .i64 o.free, .int .i64 o.slots, .slice ai o.ins.length ci]) := by
                  have := HV4.out
                  rw [Hid]
                  simpa using this
                clear HV4 HV3 HV2 HV1 HV kA kB HA HB HC2 d0 d1 d2 k0 k1 k2 j0 j1 j2 i0 i1 i2 q0 q1 q2
                go_loopw [4, 12] (fun v i wr => ∃ (n : Nat) (l2 : List UInt8), i = .int .i64 n ∧ n ≤ o.ins.length ∧ Hid (EnL w wr (.string ⟨C.shape.toArray⟩) (.slice ao C.ops.length co) (.slice ah C.hans.length ch) (.slice (some ⟨g, k, none⟩) C.funs.length cf) v l2 H [.int .i64 o.free, .int .i64 o.slots, .slice ai o.ins.length ci]) ∧ Hid (l2 = l ++ (yA ++ yB ++ yC) ++ (o.ins.take n).flatMap Cd.insB ∧ l2.length ≤ l.length + 6 + n * 9 ∧ ∀ x ∈ o.ins.take n, Cd.insOk x = true)) (fun _ i _ => o.ins.length - (intOf i).toNat)
                case atStart => exact ⟨0, _, rfl, Nat.zero_le _, HV5, by simp, by simp; omega, by simp⟩
                case round =>
                  obtain ⟨n, l2, rfl, hnl, HSq, HLq⟩ := hrel
                  have d0 := HSq.out.2.2.2.1 0 _ rfl
                  have d1 := HSq.out.2.2.2.1 1 _ rfl
                  have d2 := HSq.out.2.2.2.1 2 _ rfl
                  obtain ⟨x0, x1, x2, x3⟩ := HSq.out.1.2.2.1
                  by_cases hlt2 : n < o.ins.length
                  · obtain ⟨x, hx, htk2, hmem2, hne2⟩ := at_some hlt2
                    obtain ⟨gi, ki, hai, hcell2⟩ := HIX.out hne2
                    subst hai
                    have f0 := kc HSq.out.1.1 (hcell2 n x hx).1
                    have f1 := kc HSq.out.1.1 (hcell2 n x hx).2.1
                    have f2 := kc HSq.out.1.1 (hcell2 n x hx).2.2.1
                    have f3 := kc HSq.out.1.1 (hcell2 n x hx).2.2.2
                    have HT2 := hid htk2
                    have HM2 := hid hmem2
                    clear hcell2 hx htk2 hmem2 hne2
                    have hl3 : l2.length ≤ 50000000000 := by have := HLq.out.2.1; omega
                    have HIN := hid (fun (V : World) => ins_any x V)
                    unfold insV insE at HIN
                    have HIL := hid (Cd.insB_length x)
                    cases hfx : Cd.insOk x with
                    | true =>
                      rw [hfx] at HIN
                      simp only [if_true] at HIN
                      have HIB := hid (show (Cd.insB x).length ≤ 9 from (Cd.insB_length x).2)
                      generalize hib : Cd.insB x = bx at HIN HIB
                      have HIX2 := hid hib
                      clear hib
                      have hbx := HIB.out
                      go_wp2_with (first
                        | (go_at_call 13; refine (HIN.out _).mono ?_; rintro en w5 ⟨rfl, hb5⟩
                           have HV6 := hid (HSq.out.keep hb5)
                           have t0 := HV6.out.2.2.2.1 0 _ rfl
                           have t1 := HV6.out.2.2.2.1 1 _ rfl
                           have t2 := HV6.out.2.2.2.1 2 _ rfl
                           clear hb5)
                        | (refine wpList_bytes_str (by rfl) _ _ (by rfl) (w.heap.size + 1) _ l2 ⟨bx.toArray⟩ (by rfl) (by rfl) (by exact HV6.out.1.2.2.2) (by exact HV6.out.1.2.1) (by rw [size_mk]; omega) ?_; intro v6 w6 hrow hbel hgr hat
                           have HV7 := hid (HV6.out.app hrow hbel hgr hat)
                           clear hrow hbel hgr hat)
                        | fail)
                      go_roundw
                      case rel =>
                        refine ⟨n + 1, _, by go_num, by omega, HV7, ?_, ?_, ?_⟩
                        · rw [HT2.out, HLq.out.1]; simp [HIX2.out]
                        · have := HLq.out.2.1; simp; omega
                        · rw [HT2.out]
                          intro z hz
                          rcases List.mem_append.1 hz with hz | hz
                          · exact HLq.out.2.2 z hz
                          · simp at hz; subst hz; exact hfx
                      case measure => simp [intOf]; omega
                    | false =>
                      rw [hfx] at HIN
                      simp only [Bool.false_eq_true, if_false] at HIN
                      go_wp2_with (first
                        | (go_at_call 13; refine (HIN.out _).mono ?_; rintro en w5 ⟨rfl, hb5⟩
                           have HB5 := hid hb5
                           clear hb5)
                        | fail)
                      refine bodyPost_ret (v := .tuple #[.string ⟨#[]⟩, .int .i64 14]) (by simp [results, Try.results6, go_sem]) rfl ⟨(enc_bad (bad_fun HMm.out (bad_ins HM2.out hfx))).symm, HSq.out.1.1.trans (HB5.out.mono HSq.out.1.1.size)⟩
                  · have en : n = o.ins.length := by omega
                    subst en
                    rw [List.take_length] at HLq
                    go_wp2_with fail
                    go_roundw
                    case rel =>
                      refine ⟨m + 1, _, by go_num, by omega, hid HSq.out.1, ?_, ?_, ?_⟩
                      · rw [HT.out, HLq.out.1, HL.out.1]; simp [HO.out]
                      · have := HL.out.2.1
                        have h9 := HLq.out.2.1
                        omega
                      · rw [HT.out]
                        intro x hx
                        rcases List.mem_append.1 hx with hx | hx
                        · exact HL.out.2.2 x hx
                        · simp at hx; subst hx; exact fun_good hf0 hf1 hn HLq.out.2.2
                    case measure => simp [intOf]; omega
              · have HF : Hid (Cd.funOk o = false) := by
                  rw [Hid]
                  cases hk : Cd.funOk o with
                  | false => rfl
                  | true =>
                    unfold Cd.funOk at hk
                    simp only [Bool.and_eq_true, decide_eq_true_eq] at hk
                    exact absurd ⟨hk.1.2, hk.1.1.1, hk.1.1.2⟩ hn
                have hcs : ¬ o.ins.length ≤ 65535 ∨ Cd.fits o.free 65535 = false ∨ Cd.fits o.slots 65535 = false := by
                  cases h0 : Cd.fits o.free 65535 with
                  | false => exact .inr (.inl rfl)
                  | true =>
                    cases h1 : Cd.fits o.slots 65535 with
                    | false => exact .inr (.inr rfl)
                    | true => exact .inl fun h => hn ⟨h, h0, h1⟩
                clear hn
                have HBX := hid (HS.out.1.trans HBA.out)
                cases hf0 : Cd.fits o.free 65535 with
                | false =>
                  clear hcs
                  go_wp2_with (first
                    | (go_at_call 12; refine (fits_any _ _ _).mono ?_; rintro en w5 ⟨rfl, hw5⟩; have hw6 := hw5.symm; subst hw6)
                    | fail)
                  refine bodyPost_ret (v := .tuple #[.string ⟨#[]⟩, .int .i64 14]) (by simp [results, Try.results6, go_sem]) rfl ⟨(enc_bad (bad_fun HMm.out HF.out)).symm, HBX.out⟩
                | true =>
                  cases hf1 : Cd.fits o.slots 65535 with
                  | false =>
                    clear hcs
                    go_wp2_with (first
                      | (go_at_call 12; refine (fits_any _ _ _).mono ?_; rintro en w5 ⟨rfl, hw5⟩; have hw6 := hw5.symm; subst hw6)
                      | fail)
                    refine bodyPost_ret (v := .tuple #[.string ⟨#[]⟩, .int .i64 14]) (by simp [results, Try.results6, go_sem]) rfl ⟨(enc_bad (bad_fun HMm.out HF.out)).symm, HBX.out⟩
                  | true =>
                    have hn2 : 65535 < o.ins.length := by
                      rcases hcs with h | h | h
                      · omega
                      · rw [hf0] at h; cases h
                      · rw [hf1] at h; cases h
                    clear hcs
                    go_wp2_with (first
                      | (go_at_call 12; refine (fits_any _ _ _).mono ?_; rintro en w5 ⟨rfl, hw5⟩; have hw6 := hw5.symm; subst hw6)
                      | fail)
                    refine bodyPost_ret (v := .tuple #[.string ⟨#[]⟩, .int .i64 14]) (by simp [results, Try.results6, go_sem]) rfl ⟨(enc_bad (bad_fun HMm.out HF.out)).symm, HBX.out⟩
            · have em : m = C.funs.length := by omega
              subst em
              rw [List.take_length] at HL
              have HOK : Hid (Cd.ok C = true) := by
                rw [Hid]
                unfold Cd.ok
                simp only [Bool.and_eq_true, List.all_eq_true]
                exact ⟨⟨⟨HC.out, HO1.out⟩, HO2.out⟩, HL.out.2.2⟩
              have HBY : Hid (l = Cd.bytes C) := by
                rw [Hid, HL.out.1]
                simp [Cd.bytes, A4, A2, A0]
              obtain ⟨gv, cv, hv, _⟩ := hrow.cell
              have HRW := hid hrow
              have kS := bytes_back _ _ _ _ hrow
              rw [hv] at kS HRW
              subst hv
              have HBW := hid HS.out.1
              clear HL hrow hb0 HS
              by_cases hlen : l.length ≤ 4000000
              · go_wp2_with fail
                refine bodyPost_ret (v := .tuple #[.string ⟨l.toArray⟩, .int .i64 0]) (by simp [results, Try.results6, go_sem]) rfl ⟨?_, HBW.out⟩
                unfold encE Cd.enc
                rw [HOK.out, ← HBY.out]
                simp [hlen]
              · go_wp2_with fail
                refine bodyPost_ret (v := .tuple #[.string ⟨#[]⟩, .int .i64 1]) (by simp [results, Try.results6, go_sem]) rfl ⟨?_, HBW.out⟩
                unfold encE Cd.enc
                rw [HOK.out, ← HBY.out]
                simp [hlen]

theorem encode_any (C : Cd.Code) (b c d : Value) (w : World) (hM : CodeM w b c d C) :
    Calls Try.prog 6 #[codeV C b c d] w fun e w' => e = encE C ∧ Below w.heap.size w w' := by
  cases hc : Cd.counts C with
  | true => exact enc_main C b c d w hM hc
  | false => exact enc_counts C b c d w hM hc
end Go.Proofs.Ytkfjjkpphpakbaa
