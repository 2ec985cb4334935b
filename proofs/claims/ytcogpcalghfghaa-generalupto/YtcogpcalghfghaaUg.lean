/-
  The program's bags: join.
-/
import Derived.Test.YtcogpcalghfghaaUf
set_option linter.unusedVariables false
set_option linter.unusedSimpArgs false
namespace Go.Proofs.Ytcogpcalghfghaa
open Go.RowKit
open Un (Bag)
namespace Un
def joinL1 (b o : Bag) : Bag := b.map fun s => (s.1, s.2 + times o s.1)
def joinL2 (b o : Bag) : Bag := o.filter fun s => times b s.1 == 0
theorem times_mem {b : Bag} {x : Nm} {t : Nat} (hb : BagOK b) (h : (x, t) ∈ b) : times b x = t := by
  obtain ⟨i, hi⟩ := List.mem_iff_getElem?.1 h
  exact Go.Proofs.Ytcogpcalghfghaa.times_of hb hi
theorem times_or {b : Bag} (hb : BagOK b) (x : Nm) : (∃ t, (x, t) ∈ b ∧ times b x = t ∧ 1 ≤ t) ∨ (times b x = 0 ∧ ∀ s ∈ b, s.1 ≠ x) := by
  by_cases h : ∃ t, (x, t) ∈ b
  · obtain ⟨t, ht⟩ := h
    exact .inl ⟨t, ht, times_mem hb ht, hb.2 _ ht⟩
  · have : ∀ s ∈ b, s.1 ≠ x := fun s hs e => h ⟨s.2, by rw [← e]; exact hs⟩
    exact .inr ⟨Go.Proofs.Ytcogpcalghfghaa.times_no this, this⟩
theorem names_ne {b : Bag} (hb : BagOK b) : (b.map (·.1)).Nodup := by
  rw [List.nodup_iff_pairwise_ne, List.pairwise_map]
  exact hb.1.imp (fun {s t} (h : s.1 < t.1) (e : s.1 = t.1) => List.lt_irrefl _ (by rw [e] at h; exact h))
theorem joinL_names {b o : Bag} (hb : BagOK b) (ho : BagOK o) : ((joinL1 b o ++ joinL2 b o).map (·.1)).Nodup := by
  rw [List.map_append, List.nodup_append]
  have e1 : (joinL1 b o).map (·.1) = b.map (·.1) := by simp [joinL1, List.map_map, Function.comp_def]
  refine ⟨by rw [e1]; exact names_ne hb, ?_, fun x hx y hy e => ?_⟩
  · exact (names_ne ho).sublist ((List.filter_sublist).map _)
  · subst e
    rw [e1] at hx
    obtain ⟨s, hs, rfl⟩ := List.mem_map.1 hx
    obtain ⟨s2, hs2, e2⟩ := List.mem_map.1 hy
    obtain ⟨hs3, hs4⟩ := List.mem_filter.1 hs2
    have h0 : times b s2.1 = 0 := by simpa using hs4
    rw [e2, times_mem hb (show (s.1, s.2) ∈ b from hs)] at h0
    have := hb.2 s hs
    omega
theorem join_ok {b o b' : Bag} (hb : BagOK b) (ho : BagOK o) (hp : b'.Perm (joinL1 b o ++ joinL2 b o)) (hs : b'.Pairwise (fun s t => ¬ t.1 < s.1)) : BagOK b' := by
  have hnd : (b'.map (·.1)).Nodup := (hp.map (·.1)).nodup_iff.2 (joinL_names hb ho)
  rw [List.nodup_iff_pairwise_ne, List.pairwise_map] at hnd
  refine ⟨(hs.and hnd).imp (fun {s t} hh => ?_), fun s hs2 => ?_⟩
  · obtain ⟨h1, h2⟩ := hh
    rcases Decidable.em (s.1 < t.1) with h | h
    · exact h
    · exact absurd (List.le_antisymm (List.not_lt.1 h1) (List.not_lt.1 h)) h2
  · have hm := hp.mem_iff.1 hs2
    rcases List.mem_append.1 hm with h | h
    · obtain ⟨q, hq, rfl⟩ := List.mem_map.1 h
      have := hb.2 q hq
      simp only
      omega
    · exact ho.2 s (List.mem_filter.1 h).1
theorem join_flat {b o b' : Bag} (hb : BagOK b) (ho : BagOK o) (hp : b'.Perm (joinL1 b o ++ joinL2 b o)) (hs : b'.Pairwise (fun s t => ¬ t.1 < s.1)) : flat b' = joinB (flat b) (flat o) := by
  have hok := join_ok hb ho hp hs
  refine srt_ext (flat_srt hok) (joinB_srt _ _ (flat_srt hb)) (fun x => ?_)
  rw [joinB_count, flat_count x hok, flat_count x hb, flat_count x ho]
  have mem : ∀ t, (x, t) ∈ joinL1 b o ++ joinL2 b o → times b' x = t := fun t ht => times_mem hok (hp.mem_iff.2 ht)
  rcases times_or hb x with ⟨t, h1, h2, h3⟩ | ⟨h1, h2⟩
  · rw [mem (t + times o x) (List.mem_append.2 (.inl (List.mem_map.2 ⟨(x, t), h1, rfl⟩))), h2]
  · rcases times_or ho x with ⟨t, g1, g2, g3⟩ | ⟨g1, g2⟩
    · rw [mem t (List.mem_append.2 (.inr (List.mem_filter.2 ⟨g1, by simpa using h1⟩))), h1, g2]
      omega
    · rw [h1, g1]
      refine Go.Proofs.Ytcogpcalghfghaa.times_no (fun s hs2 e => ?_)
      have hm := hp.mem_iff.1 hs2
      rcases List.mem_append.1 hm with h | h
      · obtain ⟨q, hq, rfl⟩ := List.mem_map.1 h
        exact h2 q hq e
      · exact g2 s (List.mem_filter.1 h).1 e
theorem joinL1_take {b o : Bag} {i : Nat} {s : Nm × Nat} (h : b[i]? = some s) : joinL1 (b.take (i + 1)) o = joinL1 (b.take i) o ++ [(s.1, s.2 + times o s.1)] := by
  rw [List.take_add_one, h]
  simp [joinL1]
theorem joinL2_take {b o : Bag} {i : Nat} {s : Nm × Nat} (h : o[i]? = some s) : joinL2 b (o.take (i + 1)) = joinL2 b (o.take i) ++ (if times b s.1 = 0 then [s] else []) := by
  rw [List.take_add_one, h]
  unfold joinL2
  rw [List.filter_append]
  congr 1
  by_cases e : times b s.1 = 0
  · simp [e]
  · simp [e]
end Un
theorem run_append_sh {w : World} {v : Value} {b : Bag} (hown : w.ownsRow 0 99 2 v b.length (shC b)) {s : Un.Nm} {n : Nat} {x : Nat} (hx : w.heap[x]? = some (.cells #[str s, .int .i64 (n : Nat)] 99 (0, 0))) (hn : b.length < 1000000000) (ty : TypeId) :
    ∃ v' w', (Builtin.append_ #[73, 73] ty #[v, .slice (some ⟨x, 0, none⟩) 1 1]).run Try.prog w = .ok v' w' ∧ w'.ownsRow 0 99 2 v' (b.length + 1) (shC b ++ [str s, .int .i64 (n : Nat)]) ∧ w.grownBy w' v.ownBlock ∧ (v'.ownBlock = v.ownBlock ∨ v'.ownBlock = some w.heap.size) := by
  obtain ⟨i, hi, hzz⟩ := Option.map_eq_some_iff.1 Try.infoShare
  simp only [Prod.mk.injEq] at hzz
  obtain ⟨hz, hs, hb⟩ := hzz
  obtain ⟨v', w', hr, h4, h5, h6, h7⟩ := run_append_own_at (P := Try.prog) w 0 73 ty 99 i _ 2 24 Try.underlying73 hi hz hs hb rfl (by decide) v b.length (shC b) hown ⟨x, 0, none⟩ 1 1 [str s, .int .i64 (n : Nat)] rfl (fun j u hj => by
    rw [at_plain]
    unfold World.cell?
    rw [hx]
    have : j = 0 ∨ j = 1 := by
      have := (List.getElem?_eq_some_iff.1 hj).1
      simp at this
      omega
    rcases this with rfl | rfl <;> (simp at hj; subst hj; rfl)) (fun u hu => by
    simp at hu
    rcases hu with rfl | rfl <;> rfl) (by unfold maxLen; omega) (by omega) (Nat.zero_le _)
  exact ⟨v', w', hr, h4, h5, h7⟩

set_option maxRecDepth 100000 in
set_option maxHeartbeats 16000000 in
theorem join_any (w : World) (v u : Value) (b o : Bag) (hv : BagV w v b) (hu : BagV w u o) (hb : Un.BagOK b) (ho : Un.BagOK o) (hn : b.length < 100000000) (hno : o.length < 100000000) (hz : ∀ s ∈ b, s.2 < 1000000000) (hzo : ∀ x, Un.times o x < 1000000000) :
    Calls Try.prog 40 #[v, u] w fun e w' => ∃ v' b', e = .returned v' ∧ BagF w w' v' b' ∧ Un.BagOK b' ∧ Un.flat b' = Un.joinB (Un.flat b) (Un.flat o) ∧ b'.length ≤ b.length + o.length := by
  obtain ⟨a, c, rfl⟩ := hv.sl
  obtain ⟨a2, c2, rfl⟩ := hu.sl
  replace hv := hid hv
  replace hu := hid hu
  replace ho := hid ho
  replace hb := hid hb
  replace hz := hid hz
  replace hzo := hid hzo
  have hb0 : Hid (BagF w w (.slice none 0 0) (Un.joinL1 (b.take 0) o)) := by
    have : Un.joinL1 (b.take 0) o = [] := by simp [Un.joinL1]
    unfold Hid
    rw [this]
    exact BagF.nil w
  go_enter Try.func40, Try.ntmps40
  go_wp2
  go_loopg [5, 12] (b.length + 1) (fun q v5 v12 wr => ∃ i : Nat, v12 = .int .i64 (i : Nat) ∧ i ≤ b.length ∧ q = b.length + 1 - i ∧ Hid (BagF w wr v5 (Un.joinL1 (b.take i) o)))
  case atStart => exact ⟨0, rfl, by omega, by omega, hb0⟩
  case round =>
    clear hb0
    obtain ⟨i, rfl, hi, rfl, hB⟩ := hrel
    have hc := hid hB.out.2.1
    by_cases e : i < b.length
    · have i0 : (0 : Int) ≤ i := by omega
      have i1 : (i : Int) < (b.length : Int) := by omega
      obtain ⟨_, g, k, hsa⟩ := hv.out.some (by omega)
      subst hsa
      obtain ⟨s, hs⟩ : ∃ s, b[i]? = some s := ⟨b[i], by simp⟩
      obtain ⟨c0, c1⟩ := (hv.out.keep hc.out (fun _ _ h => h)).at hs
      have hwi : IntKind.i64.wrap ((i : Int) + 1) = (i : Int) + 1 := IntWalk.i64_in _ (by omega)
      have hnext := hid (Un.joinL1_take (o := o) hs)
      have hs2 := hz.out s (List.mem_of_getElem? hs)
      have ht2 := hzo.out s.1
      have hlb : (Un.joinL1 (b.take i) o).length < 1000000000 := by simp [Un.joinL1]; omega
      have hws : IntKind.i64.wrap ((s.2 : Int) + (Un.times o s.1 : Int)) = ((s.2 + Un.times o s.1 : Nat) : Int) := by rw [IntWalk.i64_in _ (by omega)]; omega
      replace hs := hid hs
      go_upto_region 5 with (fail)
      clear c0 c1
      have hbx := World.alloc_heap_new wr (.cells #[str s.1, .int .i64 (s.2 : Nat)] 99)
      have x0 : (wr.alloc (.cells #[str s.1, .int .i64 (s.2 : Nat)] 99)).cell? ⟨wr.heap.size, 0, none⟩ = some (str s.1) := by unfold World.cell?; rw [hbx]; rfl
      have x1 : (wr.alloc (.cells #[str s.1, .int .i64 (s.2 : Nat)] 99)).cell? ⟨wr.heap.size, 1, none⟩ = some (.int .i64 (s.2 : Nat)) := by unfold World.cell?; rw [hbx]; rfl
      have hca := hid (al_ch wr (.cells #[str s.1, .int .i64 (s.2 : Nat)] 99))
      generalize wr.alloc (.cells #[str s.1, .int .i64 (s.2 : Nat)] 99) = W at *
      have hcd := hid (hca.out.trans (Ch.drew (fun _ => False) W) (fun _ h => h.elim))
      have HT := times_any cmp_ok W.drew (.slice a2 o.length c2) o s.1 (hu.out.keep (hc.out.trans hcd.out (fun _ h => h.elim)) (fun _ _ h => h)) ho.out (by omega)
      clear hbx
      refine wp_region_held_drew (S := (fun w' => w'.cell? ⟨wr.heap.size, 0, none⟩ = some (str s.1) ∧ w'.cell? ⟨wr.heap.size, 1, none⟩ = some (.int .i64 (s.2 : Nat)))) (by kernel_rfl) (by first | trivial | ((try dsimp only); go_keep)) (fun hHeld => ?_)
      refine wpAnyH_take (i := 0) (v := ?vvu1) rfl (by kernel_rfl) (by kernel_rfl) (by kernel_rfl) (fun _ _ _ h => h) (Or.inl ⟨by rfl, ?yyu1⟩) (by assumption) ?rru1
      case yyu1 => (intro w' hSw; (try dsimp only at hSw); go_simp; (try with_reducible rfl))
      try simp only [Act.put, List.setIfInBounds_toArray, List.set_cons_zero, List.set_cons_succ]
      refine wpAnyH_take (i := 1) (v := ?vvu2) rfl (by kernel_rfl) (by kernel_rfl) (by kernel_rfl) (fun _ _ _ h => h) (Or.inl ⟨by rfl, ?yyu2⟩) (by assumption) ?rru2
      case yyu2 => (intro w' hSw; (try dsimp only at hSw); go_simp; (try with_reducible rfl))
      try simp only [Act.put, List.setIfInBounds_toArray, List.set_cons_zero, List.set_cons_succ]
      refine wpAnyH_take (i := 2) (v := ?vvu3) rfl (by kernel_rfl) (by kernel_rfl) (by kernel_rfl) (fun _ _ _ h => h) (Or.inl ⟨by rfl, ?yyu3⟩) (by assumption) ?rru3
      case yyu3 => (intro w' hSw; (try dsimp only at hSw); go_simp; (try with_reducible rfl))
      try simp only [Act.put, List.setIfInBounds_toArray, List.set_cons_zero, List.set_cons_succ]
      refine wpAnyH_take (i := 3) (v := ?vvu4) rfl (by kernel_rfl) (by kernel_rfl) (by kernel_rfl) (fun _ _ _ h => h) (Or.inl ⟨by rfl, ?yyu4⟩) (by assumption) ?rru4
      case yyu4 => (intro w' hSw; (try dsimp only at hSw); go_simp; (try with_reducible rfl))
      try simp only [Act.put, List.setIfInBounds_toArray, List.set_cons_zero, List.set_cons_succ]
      refine wpAnyH_take (i := 4) (v := ?vvu5) rfl (by kernel_rfl) (by kernel_rfl) (by kernel_rfl) (fun _ _ _ h => h) (Or.inl ⟨by rfl, ?yyu5⟩) (by assumption) ?rru5
      case yyu5 => (intro w' hSw; (try dsimp only at hSw); go_simp; (try with_reducible rfl))
      try simp only [Act.put, List.setIfInBounds_toArray, List.set_cons_zero, List.set_cons_succ]
      refine wpAnyH_take (i := 5) (v := ?vvu6) rfl (by kernel_rfl) (by kernel_rfl) (by kernel_rfl) (fun _ _ _ h => h) (Or.inl ⟨by rfl, ?yyu6⟩) (by assumption) ?rru6
      case yyu6 => (intro w' hSw; (try dsimp only at hSw); go_simp; (try with_reducible rfl))
      try simp only [Act.put, List.setIfInBounds_toArray, List.set_cons_zero, List.set_cons_succ]
      refine wpAnyH_take (i := 6) (v := ?vvu7) rfl (by kernel_rfl) (by kernel_rfl) (by kernel_rfl) (fun _ _ _ h => h) (Or.inl ⟨by rfl, ?yyu7⟩) (by assumption) ?rru7
      case yyu7 => (intro w' hSw; (try dsimp only at hSw); go_simp; (try with_reducible rfl))
      try simp only [Act.put, List.setIfInBounds_toArray, List.set_cons_zero, List.set_cons_succ]
      refine wpAnyH_take (i := 7) (v := ?vvu8) rfl (by kernel_rfl) (by kernel_rfl) (by kernel_rfl) (fun _ _ _ h => h) (Or.inl ⟨by rfl, ?yyu8⟩) (by assumption) ?rru8
      case yyu8 => (intro w' hSw; (try dsimp only at hSw); go_simp; (try with_reducible rfl))
      try simp only [Act.put, List.setIfInBounds_toArray, List.set_cons_zero, List.set_cons_succ]
      refine wpAnyH_ready (rs := [8]) (by kernel_rfl) (by simp) (AllReadyH.cons rfl (fun K hK => ?_) AllReadyH.nil)
      go_simp
      refine HT.mono ?_
      clear HT
      rintro e w3 ⟨rfl, hc3⟩
      have hS5 := And.intro (cell_ch hc3 x0 (fun h => h)) (cell_ch hc3 x1 (fun h => h))
      have hS6 := hS5
      replace hc3 := hid hc3
      dsimp only
      clear hHeld
      refine hK.out _ _ ?hs (fun hHeld => ?_)
      case hs => (first | exact hS5 | trivial | ((try dsimp only); go_keep) | ((try dsimp only); simp [*, World.cell?_alloc_some, World.cell?_setCell_far, World.cell?_setCell_other]))
      clear hK K
      try simp only [Act.put, List.setIfInBounds_toArray, List.set_cons_zero, List.set_cons_succ]
      refine wpAnyH_take (i := 9) (v := ?vvu9) rfl (by kernel_rfl) (by kernel_rfl) (by kernel_rfl) (fun _ _ _ h => h) (Or.inl ⟨by rfl, ?yyu9⟩) (by assumption) ?rru9
      case yyu9 => (intro w' hSw; (try dsimp only at hSw); go_simp; (try with_reducible rfl))
      try simp only [Act.put, List.setIfInBounds_toArray, List.set_cons_zero, List.set_cons_succ]
      refine wpAnyH_take (i := 10) (v := ?vvu10) rfl (by kernel_rfl) (by kernel_rfl) (by kernel_rfl) (fun _ _ _ h => h) (Or.inl ⟨by rfl, ?yyu10⟩) (by assumption) ?rru10
      case yyu10 => (intro w' hSw; (try dsimp only at hSw); go_simp; (try with_reducible rfl))
      try simp only [Act.put, List.setIfInBounds_toArray, List.set_cons_zero, List.set_cons_succ]
      refine wpAnyH_ready (rs := [11]) (by kernel_rfl) (by simp) (AllReadyH.cons rfl (fun K hK => ?_) AllReadyH.nil)
      go_simp
      have hS5 := And.intro (cell_ch (al_ch w3 (.cells #[str s.1, .int .i64 ((s.2 + Un.times o s.1 : Nat) : Int)] 99)) hS6.1 (fun h => h)) (cell_ch (al_ch w3 (.cells #[str s.1, .int .i64 ((s.2 + Un.times o s.1 : Nat) : Int)] 99)) hS6.2 (fun h => h))
      have hS7 := hS5
      clear hHeld
      refine hK.out _ _ ?hs (fun hHeld => ?_)
      case hs => (first | exact hS5 | trivial | ((try dsimp only); go_keep) | ((try dsimp only); simp [*, World.cell?_alloc_some, World.cell?_setCell_far, World.cell?_setCell_other]))
      clear hK K
      try simp only [Act.put, List.setIfInBounds_toArray, List.set_cons_zero, List.set_cons_succ]
      refine wpAnyH_ready (rs := [12]) (by kernel_rfl) (by simp) (AllReadyH.cons rfl (fun K hK => ?_) AllReadyH.nil)
      have hB3 := hid ((hB.out.quiet (hcd.out.trans hc3.out (fun _ h => h.elim))).quiet (al_ch w3 (.cells #[str s.1, .int .i64 ((s.2 + Un.times o s.1 : Nat) : Int)] 99)))
      obtain ⟨v', w4, hr4, hrow, hgrow, hblk⟩ := run_append_sh (w := w3.alloc (.cells #[str s.1, .int .i64 ((s.2 + Un.times o s.1 : Nat) : Int)] 99)) hB3.out.1 (World.alloc_heap_new w3 _) hlb 73
      have c4 := Ch.grown (O := fun k => u5.ownBlock = some k) hgrow (fun k hk => hk)
      have hnb : ¬ u5.ownBlock = some wr.heap.size := fun e => by have := ownsRow_lt hB.out.1 e; omega
      have hS5 := And.intro (cell_ch c4 hS7.1 hnb) (cell_ch c4 hS7.2 hnb)
      have hB4 := hid (hB3.out.more (s := (s.1, s.2 + Un.times o s.1)) hrow hgrow hblk)
      clear hrow hgrow hblk c4
      refine step_append_run rfl (.tmp 16) (.tmp 27) 73 rfl rfl rfl hr4 ?_
      clear hr4
      clear hHeld
      refine hK.out _ _ ?hs (fun hHeld => ?_)
      case hs => (first | exact hS5 | trivial | ((try dsimp only); go_keep) | ((try dsimp only); simp [*, World.cell?_alloc_some, World.cell?_setCell_far, World.cell?_setCell_other]))
      clear hK K
      try simp only [Act.put, List.setIfInBounds_toArray, List.set_cons_zero, List.set_cons_succ]
      refine wpAnyH_take (i := 13) (v := ?vvu11) rfl (by kernel_rfl) (by kernel_rfl) (by kernel_rfl) (fun _ _ _ h => h) (Or.inl ⟨by rfl, ?yyu11⟩) (by assumption) ?rru11
      case yyu11 => (intro w' hSw; (try dsimp only at hSw); go_simp; (try with_reducible rfl))
      try simp only [Act.put, List.setIfInBounds_toArray, List.set_cons_zero, List.set_cons_succ]
      refine wpAnyH_done (by kernel_rfl) ?_ _
      clear hHeld
      clear hS5 hS6 hS7 hnb hB3 x0 x1 hca hcd hc3
      go_wp2
      go_roundg (b.length - i)
      case measure => omega
      case rel => exact ⟨i + 1, by simp, by omega, by omega, hid (by rw [hnext.out]; exact hB4.out)⟩
    · obtain rfl : i = b.length := by omega
      have i1 : ¬ (b.length : Int) < (b.length : Int) := by omega
      rw [List.take_length] at hB
      have hb1 : Hid (BagF w wr u5 (Un.joinL1 b o ++ Un.joinL2 b (o.take 0))) := by
        have : Un.joinL2 b (o.take 0) = [] := by simp [Un.joinL2]
        unfold Hid
        rw [this, List.append_nil]
        exact hB.out
      clear hB hc
      go_upto_region 8 with (fail)
      go_loopg [5, 32] (o.length + 1) (fun q v5 v32 wr => ∃ i : Nat, v32 = .int .i64 (i : Nat) ∧ i ≤ o.length ∧ q = o.length + 1 - i ∧ Hid (BagF w wr v5 (Un.joinL1 b o ++ Un.joinL2 b (o.take i))))
      case atStart => exact ⟨0, rfl, by omega, by omega, hb1⟩
      case round =>
        clear hb1
        obtain ⟨i, rfl, hi, rfl, hB⟩ := hrel
        have hc := hid hB.out.2.1
        have hlb : Hid ((Un.joinL1 b o ++ Un.joinL2 b (o.take i)).length ≤ b.length + i) := by
          have h1 := List.length_filter_le (fun s => Un.times b s.1 == 0) (o.take i)
          have h2 : (Un.joinL2 b (o.take i)).length ≤ i := by
            unfold Un.joinL2
            simp at h1
            omega
          unfold Hid
          rw [List.length_append]
          have h3 : (Un.joinL1 b o).length = b.length := by simp [Un.joinL1]
          omega
        by_cases e : i < o.length
        · have i0 : (0 : Int) ≤ i := by omega
          have i2 : (i : Int) < (o.length : Int) := by omega
          obtain ⟨_, g, k, hsa⟩ := hu.out.some (by omega)
          subst hsa
          obtain ⟨s, hs⟩ : ∃ s, o[i]? = some s := ⟨o[i], by simp⟩
          obtain ⟨c0, c1⟩ := (hu.out.keep hc.out (fun _ _ h => h)).at hs
          have hwi : IntKind.i64.wrap ((i : Int) + 1) = (i : Int) + 1 := IntWalk.i64_in _ (by omega)
          have hnext := hid (Un.joinL2_take (b := b) hs)
          have hlb2 := hlb.out
          replace hs := hid hs
          go_upto_region 10 with (fail)
          clear c0 c1
          have hbx := World.alloc_heap_new wr (.cells #[str s.1, .int .i64 (s.2 : Nat)] 99)
          have x0 : (wr.alloc (.cells #[str s.1, .int .i64 (s.2 : Nat)] 99)).cell? ⟨wr.heap.size, 0, none⟩ = some (str s.1) := by unfold World.cell?; rw [hbx]; rfl
          have x1 : (wr.alloc (.cells #[str s.1, .int .i64 (s.2 : Nat)] 99)).cell? ⟨wr.heap.size, 1, none⟩ = some (.int .i64 (s.2 : Nat)) := by unfold World.cell?; rw [hbx]; rfl
          have hca := hid (al_ch wr (.cells #[str s.1, .int .i64 (s.2 : Nat)] 99))
          generalize wr.alloc (.cells #[str s.1, .int .i64 (s.2 : Nat)] 99) = W at *
          have HT := times_any cmp_ok W (.slice a b.length c) b s.1 (hv.out.keep (hc.out.trans hca.out (fun _ h => h.elim)) (fun _ _ h => h)) hb.out (by omega)
          clear hbx
          by_cases ht0 : Un.times b s.1 = 0
          · have hteq : ((Un.times b s.1 : Int) == 0) = true := by simp [ht0]
            go_upto_region 11 with (go_at_call 48; refine HT.mono ?_; clear HT; rintro e w3 ⟨rfl, hc3⟩; have y0 := cell_ch hc3 x0 (fun h => h); have y1 := cell_ch hc3 x1 (fun h => h); replace hc3 := hid hc3)
            have hBa := hid ((hB.out.quiet (hca.out.trans hc3.out (fun _ h => h.elim))).quiet (al_ch w3 (.cells #[str s.1, .int .i64 (s.2 : Nat)] 99)))
            have hrw := hBa.out.1
            clear x0 x1
            go_wp2_with (at_builtin; go_must (refine list_append rfl (.tmp 41) (.tmp 43) 73 rfl 99 _ 2 24 Try.underlying73 Try.infoShare rfl (by decide) _ _ _ rfl hrw ⟨_, 0, none⟩ 1 1 [str s.1, .int .i64 (s.2 : Nat)] rfl rfl (new_share w3 s.1 _) (by simp [Value.oneCell']) (by unfold maxLen; omega) (by omega) ?_); intro v' w4 hrow hgrow hblk)
            have hB4 := hid (hBa.out.more (s := s) hrow hgrow hblk)
            go_roundg (o.length - i)
            case measure => omega
            case rel => exact ⟨i + 1, by simp, by omega, by omega, hid (by rw [hnext.out, if_pos ht0, ← List.append_assoc]; exact hB4.out)⟩
          · have hteq : ((Un.times b s.1 : Int) == 0) = false := by simp; omega
            go_wp2_with (go_at_call 48; refine HT.mono ?_; clear HT; rintro e w3 ⟨rfl, hc3⟩; replace hc3 := hid hc3)
            go_roundg (o.length - i)
            case measure => omega
            case rel => exact ⟨i + 1, by simp, by omega, by omega, hid (by rw [hnext.out, if_neg ht0, List.append_nil]; exact hB.out.quiet (hca.out.trans hc3.out (fun _ h => h.elim)))⟩
        · obtain rfl : i = o.length := by omega
          have i2 : ¬ (o.length : Int) < (o.length : Int) := by omega
          rw [List.take_length] at hB hlb
          have hlb2 := hlb.out
          generalize hJ : Un.joinL1 b o ++ Un.joinL2 b o = J at *
          replace hJ := hid hJ
          have HS := sortF_any wr u5 J hB.out.1 (by omega)
          obtain ⟨va, vc, hv3, _⟩ := row_slice hB.out.1
          subst hv3
          go_wp2_with (go_at_call 49; refine HS.mono ?_; clear HS; rintro e w3 ⟨rfl, b', hp, hsd, hrow, hc3⟩; replace hp := hid hp; replace hsd := hid hsd; replace hrow := hid hrow; replace hc3 := hid hc3)
          go_ret
          have hpl := hp.out.length_eq
          have hp2 := hp.out
          rw [← hJ.out] at hp2
          refine ⟨_, b', rfl, ⟨by rw [hpl]; exact hrow.out, hB.out.2.1.trans hc3.out (fun k hk => .inr (hB.out.2.2 k hk)), hB.out.2.2⟩, Un.join_ok hb.out ho.out hp2 hsd.out, Un.join_flat hb.out ho.out hp2 hsd.out, by omega⟩
end Go.Proofs.Ytcogpcalghfghaa
