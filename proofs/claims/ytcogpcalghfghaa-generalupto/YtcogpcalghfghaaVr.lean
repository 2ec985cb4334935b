/-
  The program's proper, checkPairs.
-/
import Derived.Test.YtcogpcalghfghaaMVp
import Derived.Test.YtcogpcalghfghaaMEe
set_option linter.unusedVariables false
set_option linter.unusedSimpArgs false
namespace Go.Proofs.Ytcogpcalghfghaa
open Go.RowKit Go.Shelf

set_option maxHeartbeats 1000000 in
theorem pproper_any (w : World) (k n r : Int) (os az : Value) (h : Rdc w 301 os az) :
    Calls Try.prog 16 #[.agg #[.int .i64 k, .int .i64 n, .int .i64 r, os, az]] w fun e w' => BoolP (IsProp w k n r os az) w e w' := by
  have HA := fun W hW => parts_any 300 w W k n r os az 300 hW h (by omega) (by omega) (by omega)
  obtain ⟨⟨o, hO, _⟩, sa, la, ca, rfl, hlc, hA⟩ := h
  obtain ⟨a, c, rfl, _⟩ := id hO
  have hb0 := hid ((Below.refl w.heap.size w).alloc (Nat.le_refl _) (.cells #[.int .i64 k, .int .i64 n, .int .i64 r, .slice a o.length c, .slice sa la ca] 27))
  clear hO hA
  go_enter Try.func16, Try.ntmps16
  go_wp2_with (go_at_call 23; refine (HA _ hb0.out).mono ?_; clear HA; rintro e w2 ⟨z, rfl, hb2, hz1, hz2, hf1, hf2⟩; replace hf1 := hid hf1; replace hf2 := hid hf2; have HB := hid (hb0.out.trans (hb2.mono (by simp))); clear hb2)
  go_ret
  refine ⟨_, rfl, ?_, HB.out⟩
  simp only [decide_eq_true_eq]
  constructor
  · intro hz
    obtain ⟨t, ht, hc⟩ := hf2.out hz
    exact ⟨t, ht, by omega⟩
  · rintro ⟨t, ht, hc⟩
    have := hf1.out t ht (by omega)
    omega

/-- Pairs of types in memory, no row of names longer than a slice is. -/
structure PrC (w : World) (g o n : Nat) (A B : Nat → Raw) : Prop where
  a : ∀ i, i < n → ElR w g (o + i * 10) (A i) ∧ Rdc w 301 (A i).os (A i).az
  b : ∀ i, i < n → ElR w g (o + i * 10 + 5) (B i) ∧ Rdc w 301 (B i).os (B i).az
theorem PrC.keep {w w' : World} {g o n : Nat} {A B : Nat → Raw} (h : PrC w g o n A B) (hc : Ch (fun _ => False) w w') : PrC w' g o n A B := by
  have hs : ∀ k, k < w.heap.size → w'.heap[k]? = w.heap[k]? := fun k hk => hc.same k hk (fun h => h)
  exact ⟨fun i hi => ⟨(h.a i hi).1.of_heap (hs g (h.a i hi).1.lt), Rdc.carry hs (h.a i hi).2⟩, fun i hi => ⟨(h.b i hi).1.of_heap (hs g (h.b i hi).1.lt), Rdc.carry hs (h.b i hi).2⟩⟩

theorem ten_cells {w : World} {x : Nat} {v0 v1 v2 v3 v4 v5 v6 v7 v8 v9 : Value} {T : TypeId} (h : w.heap[x]? = some (.cells #[v0, v1, v2, v3, v4, v5, v6, v7, v8, v9] T (0, 0))) :
    w.cell? ⟨x, 5, none⟩ = some v5 ∧ w.cell? ⟨x, 6, none⟩ = some v6 ∧ w.cell? ⟨x, 7, none⟩ = some v7 ∧ w.cell? ⟨x, 8, none⟩ = some v8 ∧ w.cell? ⟨x, 9, none⟩ = some v9 := by
  refine ⟨?_, ?_, ?_, ?_, ?_⟩ <;> (unfold World.cell?; rw [h]; rfl)
/-- What checkPairs answers. -/
def CpP (w : World) (n : Nat) (A B : Nat → Raw) (en : Ending) (w' : World) : Prop :=
  Ch (fun _ => False) w w' ∧ ((en = .returned (flt 0 0) ∧ n ≤ 20 ∧ AllP w n A B) ∨ (en = .returned (flt 11 20) ∧ 20 < n) ∨
    ∃ j : Nat, en = .returned (flt 11 j) ∧ n ≤ 20 ∧ j < n ∧ AllP w j A B ∧ ¬ (PropR w (A j) ∧ PropR w (B j)))

set_option maxRecDepth 100000 in
set_option maxHeartbeats 4000000 in
theorem pcheck_many (w : World) (a : Option Addr) (n c : Nat) (A B : Nat → Raw) (hn : 20 < n) :
    Calls Try.prog 9 #[.slice a n c] w fun en w' => CpP w n A B en w' := by
  have h1 : (20 : Int) < n := by omega
  go_enter Try.func9, Try.ntmps9
  go_wp2
  refine bodyPost_ret (v := flt 11 20) (by simp [results, Try.results9, go_sem]) rfl ⟨?_, .inr (.inl ⟨rfl, hn⟩)⟩
  exact al_ch w _

set_option maxRecDepth 100000 in
set_option maxHeartbeats 8000000 in
theorem pcheck_main (w : World) (a : Option Addr) (g o n c : Nat) (A B : Nat → Raw) (hn : n ≤ 20) (ha : n ≠ 0 → a = some ⟨g, o, none⟩) (hM : PrC w g o n A B) :
    Calls Try.prog 9 #[.slice a n c] w fun en w' => CpP w n A B en w' := by
  have h1 : ¬ ((20 : Int) < n) := by omega
  replace hM := hid hM
  replace ha := hid ha
  go_enter Try.func9, Try.ntmps9
  go_wp2
  have hlf : Hid ((w.alloc (.cells #[.int .i64 0, .int .i64 0] 30)).heap[w.heap.size]? = some (.cells #[.int .i64 0, .int .i64 0] 30 (0, 0))) := World.alloc_heap_new w _
  have hc0 : Hid (Ch (fun _ => False) w (w.alloc (.cells #[.int .i64 0, .int .i64 0] 30))) := al_ch w _
  generalize w.alloc (.cells #[.int .i64 0, .int .i64 0] 30) = W0 at *
  go_loopg [11] (n + 1) (fun q v wr => ∃ i : Nat, v = .int .i64 (i : Nat) ∧ i ≤ n ∧ q = n + 1 - i ∧ Hid (∀ j, j < i → PropR w (A j) ∧ PropR w (B j)) ∧ Hid (Ch (fun _ => False) W0 wr))
  case atStart => exact ⟨0, rfl, by omega, by omega, fun j hj => absurd hj (by omega), Ch.refl _ _⟩
  case round =>
    obtain ⟨i, rfl, hi, rfl, hP, hC⟩ := hrel
    by_cases e : i < n
    · have i0 : (0 : Int) ≤ i := by omega
      have i1 : (i : Int) < (n : Int) := by omega
      obtain rfl := ha.out (by omega)
      have hcw : Hid (Ch (fun _ => False) w wr) := hc0.out.trans hC.out (fun _ h => h.elim)
      have hMr := hid (hM.out.keep hcw.out)
      obtain ⟨⟨a0, a1, a2, a3, a4⟩, ra⟩ := hMr.out.a i e
      obtain ⟨⟨b0, b1, b2, b3, b4⟩, rb⟩ := hMr.out.b i e
      obtain ⟨⟨xa, xl, xc, hxo⟩, ⟨ya, yl, yc, hyo⟩⟩ := ra.rdb.up
      obtain ⟨⟨za, zl, zc, hzo⟩, ⟨va, vl, vc, hvo⟩⟩ := rb.rdb.up
      rw [hxo] at a3 ra
      rw [hyo] at a4 ra
      rw [hzo] at b3 rb
      rw [hvo] at b4 rb
      have HPA := fun (v : World) (hv : Ch (fun _ => False) wr v) => prop_iff (hcw.out.trans hv (fun _ h => h.elim)) (hM.out.a i e).2.rdb
      have HPB := fun (v : World) (hv : Ch (fun _ => False) wr v) => prop_iff (hcw.out.trans hv (fun _ h => h.elim)) (hM.out.b i e).2.rdb
      unfold PropR at HPA HPB
      rw [hxo, hyo] at HPA
      rw [hzo, hvo] at HPB
      replace HPA := hid HPA
      replace HPB := hid HPB
      have hbx : Hid (∀ ob : Obj, Ch (fun _ => False) wr (wr.alloc ob)) := fun ob => al_ch wr ob
      have HA := fun (v : World) (hv : Ch (fun _ => False) wr v) => pproper_any v (A i).k (A i).n (A i).r (.slice xa xl xc) (.slice ya yl yc) (Rdc.carry (fun k hk => hv.same k hk (fun h => h)) ra)
      have HB := fun (v : World) (hv : Ch (fun _ => False) wr v) => pproper_any v (B i).k (B i).n (B i).r (.slice za zl zc) (.slice va vl vc) (Rdc.carry (fun k hk => hv.same k hk (fun h => h)) rb)
      clear ra rb
      go_wp2_with (first
        | (go_at_call 16; refine (HA _ (hbx.out _)).mono ?_; clear HA; rintro en w2 ⟨ok1, rfl, hf1, hb1⟩; replace hf1 := hid (hf1.trans (HPA.out _ (hbx.out _))); obtain ⟨b5, b6, b7, b8, b9⟩ := ten_cells ((hb1.block wr.heap.size (by simp)).trans (World.alloc_heap_new wr _)); replace hb1 := hid ((hbx.out _).trans (below_ch hb1) (fun _ h => h.elim)); obtain ⟨l0, l1, l2, l3⟩ := flt_cells ((hC.out.trans hb1.out (fun _ h => h.elim)).keeps hlf.out (fun h => h)))
        | (go_at_call 16; refine (HB _ hb1.out).mono ?_; clear HB; rintro en w3 ⟨ok2, rfl, hf2, hb2⟩; replace hf2 := hid (hf2.trans (HPB.out _ hb1.out)); replace hb2 := hid (hb1.out.trans (below_ch hb2) (fun _ h => h.elim)); clear l0 l1 l2 l3; obtain ⟨l0, l1, l2, l3⟩ := flt_cells ((hC.out.trans hb2.out (fun _ h => h.elim)).keeps hlf.out (fun h => h))))
      · rename_i hok1 hok2
        refine bodyPost_ret (v := flt 11 i) (by simp [results, Try.results9, go_sem, l0, l1, l2, l3]) rfl ⟨?_, .inr (.inr ⟨i, rfl, hn, e, hP.out, ?_⟩)⟩
        · exact (((hcw.out.trans hb2.out (fun _ h => h.elim))).setX _ 0 _ (.inr (Nat.le_refl _))).setX _ 1 _ (.inr (Nat.le_refl _))
        · intro h
          have := h.2
          unfold PropR at this
          rw [hzo, hvo] at this
          have := hf2.out.2 this
          simp_all
      · rename_i hok1 hok2
        go_roundg (n - i)
        case measure => omega
        case rel =>
          refine ⟨i + 1, by simp, by omega, by omega, fun j hj => ?_, hC.out.trans hb2.out (fun _ h => h.elim)⟩
          by_cases ej : j = i
          · subst ej
            unfold PropR
            rw [hxo, hyo, hzo, hvo]
            exact ⟨hf1.out.1 (by simpa using hok1), hf2.out.1 (by simpa using hok2)⟩
          · exact hP.out j (by omega)
      · rename_i hok1
        refine bodyPost_ret (v := flt 11 i) (by simp [results, Try.results9, go_sem, l0, l1, l2, l3]) rfl ⟨?_, .inr (.inr ⟨i, rfl, hn, e, hP.out, ?_⟩)⟩
        · exact (((hcw.out.trans hb1.out (fun _ h => h.elim))).setX _ 0 _ (.inr (Nat.le_refl _))).setX _ 1 _ (.inr (Nat.le_refl _))
        · intro h
          have := h.1
          unfold PropR at this
          rw [hxo, hyo] at this
          have := hf1.out.2 this
          simp_all
    · obtain rfl : i = n := by omega
      have i1 : ¬ (i : Int) < (i : Int) := by omega
      obtain ⟨l0, l1, l2, l3⟩ := flt_cells (hC.out.keeps hlf.out (fun h => h))
      go_wp2
      refine bodyPost_ret (v := flt 0 0) (by simp [results, Try.results9, go_sem, l0, l1, l2, l3]) rfl ⟨?_, .inl ⟨rfl, hn, hP.out⟩⟩
      exact ((hc0.out.trans hC.out (fun _ h => h.elim)).setX _ 0 _ (.inr (Nat.le_refl _))).setX _ 1 _ (.inr (Nat.le_refl _))
theorem pcheck_any (w : World) (a : Option Addr) (g o n c : Nat) (A B : Nat → Raw) (ha : n ≠ 0 → a = some ⟨g, o, none⟩) (hM : PrC w g o n A B) :
    Calls Try.prog 9 #[.slice a n c] w fun en w' => CpP w n A B en w' := by
  by_cases hn : n ≤ 20
  · exact pcheck_main w a g o n c A B hn ha hM
  · exact pcheck_many w a n c A B (by omega)
end Go.Proofs.Ytcogpcalghfghaa
