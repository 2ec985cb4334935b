/-
  The document's Top, Pop, Open, Close.
-/
import Derived.Test.YtknjbiineihgfaaRb
set_option linter.unusedVariables false
set_option linter.unusedSimpArgs false
namespace Go.Proofs.Ytknjbiineihgfaa
open Go.RowKit

theorem own_trunc {w : World} {base : Nat} {e : TypeId} {size g n cap m : Nat} {xs : List Value} (h : w.ownsRow base e size (.slice (some ⟨g, 0, none⟩) n cap) n xs) (hm : m ≤ n) : w.ownsRow base e size (.slice (some ⟨g, 0, none⟩) m cap) m (xs.take (m * size)) := by
  rcases h.2 with ⟨h1, _⟩ | ⟨g', cap', cur, h1, hb, hg, h2, h3, h4, h5⟩
  · cases h1
  · cases h1
    have hle : m * size ≤ n * size := Nat.mul_le_mul_right _ hm
    refine ⟨by rw [List.length_take, h.1, Nat.min_eq_left hle], .inr ⟨g, cap, cur, rfl, hb, hg, by omega, h3, h4, ?_⟩⟩
    rw [← h5, List.take_take, Nat.min_eq_left hle]
/-- Worlds that differ by draws alone. -/
def Same (w w' : World) : Prop := (w'.heap, w'.os, w'.output) = (w.heap, w.os, w.output)
theorem Same.heap {w w' : World} (h : Same w w') : w'.heap = w.heap := (Prod.mk.inj h).1
theorem Same.ch {w w' : World} (h : Same w w') (O : Nat → Prop) : Ch O w w' := ⟨by rw [h.heap]; exact Nat.le_refl _, fun k _ _ => by rw [h.heap], (Prod.mk.inj (Prod.mk.inj h).2).1, (Prod.mk.inj (Prod.mk.inj h).2).2⟩
theorem Same.cell {w w' : World} (h : Same w w') (p : Addr) : w'.cell? p = w.cell? p := by unfold World.cell?; rw [h.heap]
theorem Same.frozen {w w' : World} (h : Same w w') (p : Addr) : w'.frozen? p = w.frozen? p := by unfold World.frozen?; rw [h.heap]
theorem RtM.same {w w' : World} {c : Nat} {v : Value} {L : List Rn} (h : RtM w c v L) (hs : Same w w') : RtM w' c v L := h.keep (fun _ _ => by rw [hs.heap])

set_option maxHeartbeats 4000000 in
theorem rtop_none (w : World) (c : Nat) (v : Value) (A : List Rn) (r : Rn) (h : RtM w c v (A ++ [r])) (hA : A.length < 1000000) (hz : r.s.l = []) :
    Calls Try.prog 12 #[.pointer (some ⟨c, 0, none⟩)] w fun e w' => e = .returned (.tuple #[.int .i64 0, .bool false]) ∧ Same w w' := by
  obtain ⟨g, cap, rfl, c0, c1, c2, hf, hgc, hug, huc, hgl, hcap⟩ := h.last
  obtain ⟨h0, hf0⟩ := h.cell
  have hlast := last_any w c g A.length cap h0 (by omega)
  have hru := h.rs.us r (by simp)
  obtain ⟨a, cp, hur, _⟩ := row_slice hru
  rw [hur, hz] at c2
  have c2d : w.drew.cell? ⟨g, A.length * 3 + 2, none⟩ = some (.slice a 0 cp) := c2
  go_enter Try.func12, Try.ntmps12
  go_wp2_with (go_at_call 28; refine hlast.mono ?_; clear hlast; rintro e w9 ⟨rfl, rfl⟩; dsimp only)
  refine bodyPost_ret (v := .tuple #[.int .i64 0, .bool false]) (by simp [results, Try.results12, go_sem]) rfl ?_
  exact ⟨rfl, rfl⟩

set_option maxHeartbeats 4000000 in
theorem rtop_some (w : World) (c : Nat) (v : Value) (A : List Rn) (r : Rn) (h : RtM w c v (A ++ [r])) (hA : A.length < 1000000) (l : List Int) (f : Int) (hz : r.s.l = l ++ [f]) (hl : l.length < 1000000000) :
    Calls Try.prog 12 #[.pointer (some ⟨c, 0, none⟩)] w fun e w' => e = .returned (.tuple #[.int .i64 f, .bool true]) ∧ Same w w' := by
  obtain ⟨g, cap, rfl, c0, c1, c2, hf, hgc, hug, huc, hgl, hcap⟩ := h.last
  obtain ⟨h0, hf0⟩ := h.cell
  have hlast := last_any w c g A.length cap h0 (by omega)
  have hru := h.rs.us r (by simp)
  have hlen : r.s.l.length = l.length + 1 := by rw [hz]; simp
  rw [hlen] at hru
  obtain ⟨g2, cp, hur⟩ := ownsRow_succ hru
  rw [hur] at c2 hru
  have cf : w.cell? ⟨g2, l.length, none⟩ = some (.int .i64 f) := row_cell hru _ _ (by rw [hz]; simp)
  have c2d : w.drew.cell? ⟨g, A.length * 3 + 2, none⟩ = some (.slice (some ⟨g2, 0, none⟩) (l.length + 1) cp) := c2
  have cfd : w.drew.cell? ⟨g2, l.length, none⟩ = some (.int .i64 f) := cf
  have hmx : Try.prog.follows .mixedOrders = true := by kernel_rfl
  have hw : IntKind.i64.wrap (((l.length : Int) + 1) - 1) = (l.length : Int) := by rw [IntWalk.i64_in _ (by omega)]; omega
  have hw2 : IntKind.i64.wrap (l.length : Int) = (l.length : Int) := IntWalk.i64_in _ (by omega)
  have hi0 : (0 : Int) ≤ (l.length : Int) := by omega
  have hi1 : (l.length : Int) < (l.length : Int) + 1 := by omega
  have hne : ¬ ((l.length : Int) + 1 = 0) := by omega
  clear hru hur c2 cf
  go_enter Try.func12, Try.ntmps12
  go_upto_region 4 with (go_at_call 28; refine hlast.mono ?_; clear hlast; rintro e w9 ⟨rfl, rfl⟩; dsimp only)
  go_region_held3 (fun w' => w'.cell? ⟨g, A.length * 3 + 2, none⟩ = some (.slice (some ⟨g2, 0, none⟩) (l.length + 1) cp) ∧ w'.cell? ⟨g2, l.length, none⟩ = some (.int .i64 f)) (go_keep) (fail)
  go_wp2
  refine bodyPost_ret (v := .tuple #[.int .i64 f, .bool true]) (by simp [results, Try.results12, go_sem]) rfl ?_
  exact ⟨rfl, rfl⟩

set_option maxHeartbeats 4000000 in
theorem rpop_none (w : World) (c : Nat) (v : Value) (A : List Rn) (r : Rn) (h : RtM w c v (A ++ [r])) (hA : A.length < 1000000) (hz : r.s.l = []) :
    Calls Try.prog 10 #[.pointer (some ⟨c, 0, none⟩)] w fun e w' => e = .returned (.tuple #[.int .i64 0, .bool false]) ∧ Same w w' := by
  have ht := rtop_none w c v A r h hA hz
  go_enter Try.func10, Try.ntmps10
  go_wp2_with (go_at_call 12; refine ht.mono ?_; clear ht; rintro e w' ⟨rfl, hs⟩; dsimp only)
  refine bodyPost_ret (v := .tuple #[.int .i64 0, .bool false]) (by simp [results, Try.results10, go_sem]) rfl ?_
  exact ⟨rfl, hs⟩

set_option maxHeartbeats 4000000 in
theorem rpop_some (w : World) (c : Nat) (v : Value) (A : List Rn) (r : Rn) (h : RtM w c v (A ++ [r])) (hA : A.length < 1000000) (l : List Int) (f : Int) (hz : r.s.l = l ++ [f]) (hl : l.length < 1000000000) :
    Calls Try.prog 10 #[.pointer (some ⟨c, 0, none⟩)] w fun e w' => e = .returned (.tuple #[.int .i64 f, .bool true]) ∧ ∃ u', RtM w' c v (A ++ [⟨u', r.s.has, r.s.tag, l⟩]) ∧ Ch (rtown c v (A ++ [r])) w w' ∧ More w (rtown c v (A ++ [r])) (rtown c v (A ++ [⟨u', r.s.has, r.s.tag, l⟩])) := by
  have ht := rtop_some w c v A r h hA l f hz hl
  obtain ⟨g, cap, rfl, c0, c1, c2, hf, hgc, hug, huc, hgl, hcap⟩ := h.last
  obtain ⟨h0, hf0⟩ := h.cell
  have hru := h.rs.us r (by simp)
  have hlen : r.s.l.length = l.length + 1 := by rw [hz]; simp
  rw [hlen] at hru
  obtain ⟨g2, cp, hur⟩ := ownsRow_succ hru
  rw [hur] at c2
  have hcp : l.length + 1 ≤ cp := by
    rw [hur] at hru
    rcases hru.2 with ⟨e, _⟩ | ⟨_, _, _, e, _, _, h1, _⟩
    · cases e
    · cases e; exact h1
  have hcpm : cp ≤ 9223372036854775807 := by
    rw [hur] at hru
    rcases hru.2 with ⟨e, _⟩ | ⟨_, _, _, e, _, _, _, h1, _⟩
    · cases e
    · cases e; exact h1
  have hmx : Try.prog.follows .mixedOrders = true := by kernel_rfl
  have hw : IntKind.i64.wrap (((l.length : Int) + 1) - 1) = (l.length : Int) := by rw [IntWalk.i64_in _ (by omega)]; omega
  have hw2 : IntKind.i64.wrap (l.length : Int) = (l.length : Int) := IntWalk.i64_in _ (by omega)
  have hi0 : (0 : Int) ≤ (l.length : Int) := by omega
  have hi1 : (l.length : Int) ≤ (cp : Int) := by omega
  go_enter Try.func10, Try.ntmps10
  go_upto_region 3 with (go_at_call 12; refine ht.mono ?_; clear ht; rintro e W1 ⟨rfl, hs1⟩; dsimp only)
  have hl1 := last_any W1 c g A.length cap ((hs1.cell _).trans h0) (by omega)
  have c2d : W1.drew.cell? ⟨g, A.length * 3 + 2, none⟩ = some (.slice (some ⟨g2, 0, none⟩) (l.length + 1) cp) := (hs1.cell _).trans c2
  have hfd : W1.drew.frozen? ⟨g, A.length * 3 + 2, none⟩ = false := (hs1.frozen _).trans (hf _)
  have hs2 : Same w W1.drew.drew := hs1
  clear c0 c1 c2 hf h0 hf0
  go_upto_region 4 with (go_at_call 28; refine hl1.mono ?_; clear hl1; rintro e w9 ⟨rfl, rfl⟩; dsimp only)
  go_region
  all_goals
    go_wp2
    refine bodyPost_ret (v := .tuple #[.int .i64 f, .bool true]) (by simp [results, Try.results10, go_sem]) rfl ?_
    refine ⟨rfl, .slice (some ⟨g2, 0, none⟩) l.length cp, ?_⟩
    have hu1 : W1.ownsRow 0 3 1 (.slice (some ⟨g2, 0, none⟩) l.length cp) l.length (l.map (Value.int .i64)) := by
      rw [hur] at hru
      have := ownsRow_keep (own_trunc hru (Nat.le_succ l.length)) (w' := W1) (fun k _ => by rw [hs1.heap])
      simpa [hz] using this
    obtain ⟨f1, f2, f3⟩ := h.upd (w1 := W1) (u' := .slice (some ⟨g2, 0, none⟩) l.length cp) (l' := l) (hs1.ch _) hu1 (fun k hk => .inl (by rw [hur]; exact hk))
    exact ⟨f1.dr.dr, f2.dr.dr, f3⟩

theorem rcells_one (r : Rn) (hu : r.u.oneCell' = true) : ∀ q ∈ r.cells, q.oneCell' = true := by
  intro q hq
  simp [Rn.cells] at hq
  rcases hq with rfl | rfl | rfl
  · rfl
  · rfl
  · exact hu

/-- Segments put behind those of a stack. -/
theorem RtM.append {w w1 : World} {c : Nat} {v v' : Value} {L M : List Rn} (h : RtM w c v L) (hc1 : Ch (fun k => v.ownBlock = some k) w w1) (hrow : w1.ownsRow 0 68 3 v' (L ++ M).length ((L ++ M).flatMap Rn.cells)) (hm : ∀ k, v'.ownBlock = some k → v.ownBlock = some k ∨ w.heap.size ≤ k)
    (hus : ∀ r ∈ M, w1.ownsRow 0 3 1 r.u r.s.l.length (r.s.l.map (Value.int .i64))) (hnew : ∀ r ∈ M, ∀ k, r.u.ownBlock = some k → w.heap.size ≤ k ∧ v'.ownBlock ≠ some k) (hds : M.Pairwise (fun r r' => ∀ k, r.u.ownBlock = some k → r'.u.ownBlock ≠ some k)) :
    RtM (w1.setCell ⟨c, 0, none⟩ v') c v' (L ++ M) ∧ Ch (rtown c v L) w (w1.setCell ⟨c, 0, none⟩ v') ∧ More w (rtown c v L) (rtown c v' (L ++ M)) := by
  have hcl : c < w.heap.size := h.lt (.inl rfl)
  have hvc : v.ownBlock ≠ some c := fun e => h.nc (.inl e)
  have hv'c : v'.ownBlock ≠ some c := fun e => by rcases hm c e with e | e; exact hvc e; omega
  have hold : ∀ q ∈ L, ∀ k, q.u.ownBlock = some k → v.ownBlock ≠ some k ∧ k ≠ c ∧ k < w.heap.size := fun q hq k hk =>
    ⟨fun e => h.rs.dv q hq k hk e, fun e => h.nc (.inr ⟨q, hq, by rw [← e]; exact hk⟩), ownsRow_lt (h.rs.us q hq) hk⟩
  have hb1 : w1.heap[c]? = some (.cells #[v] 49 (0, 0)) := (hc1.same c hcl hvc).trans h.blk
  refine ⟨⟨blk_set hb1, ⟨?_, ?_, ?_, ?_⟩, ?_⟩, ?_, ?_⟩
  · exact ownsRow_keep hrow (fun k hk => Below.heap_setCell _ _ _ k (fun e => hv'c (by rw [← show k = c from e]; exact hk)))
  · intro q hq
    rcases List.mem_append.1 hq with hq | hq
    · refine ownsRow_keep (h.rs.us q hq) (fun k hk => ?_)
      obtain ⟨e1, e2, e3⟩ := hold q hq k hk
      exact (Below.heap_setCell _ _ _ k (by exact e2)).trans (hc1.same k e3 e1)
    · exact ownsRow_keep (hus q hq) (fun k hk => Below.heap_setCell _ _ _ k (fun e => by have := (hnew q hq k hk).1; have e2 : k = c := e; omega))
  · rw [List.pairwise_append]
    refine ⟨h.rs.ds, hds, fun q hq q' hq' k hk e => ?_⟩
    have := (hold q hq k hk).2.2
    have := (hnew q' hq' k e).1
    omega
  · intro q hq k hk
    rcases List.mem_append.1 hq with hq | hq
    · obtain ⟨e1, e2, e3⟩ := hold q hq k hk
      intro e
      rcases hm k e with e | e
      · exact e1 e
      · omega
    · exact (hnew q hq k hk).2
  · rintro (e | ⟨q, hq, e⟩)
    · exact hv'c e
    · rcases List.mem_append.1 hq with hq | hq
      · exact (hold q hq c e).2.1 rfl
      · have := (hnew q hq c e).1; omega
  · exact (hc1.mono (fun k hk => .inr (.inl hk))).set (a := ⟨c, 0, none⟩) (.inl rfl) _
  · rintro k (e | e | ⟨q, hq, e⟩)
    · exact .inl (.inl e)
    · exact (hm k e).imp_left (fun e => .inr (.inl e))
    · rcases List.mem_append.1 hq with hq | hq
      · exact .inl (.inr (.inr ⟨q, hq, e⟩))
      · exact .inr (hnew q hq k e).1

set_option maxHeartbeats 4000000 in
theorem ropen_any (w : World) (c : Nat) (v : Value) (L : List Rn) (tag : Int) (h : RtM w c v L) (hL : L.length < 100000000) :
    Calls Try.prog 14 #[.pointer (some ⟨c, 0, none⟩), .int .i64 tag] w fun e w' => e = .returned (.tuple #[]) ∧ ∃ v' u', RtM w' c v' (L ++ [⟨u', true, tag, []⟩]) ∧ Ch (rtown c v L) w w' ∧ More w (rtown c v L) (rtown c v' (L ++ [⟨u', true, tag, []⟩])) := by
  obtain ⟨h0, hf0⟩ := h.cell
  have hrow := h.rs.row
  obtain ⟨a, cap, rfl, _⟩ := row_slice hrow
  have hvc : (Value.slice a L.length cap).ownBlock ≠ some c := fun e => h.nc (.inl e)
  have hAc : ∀ j u, ([.bool true, .int .i64 tag, .slice none 0 0] : List Value)[j]? = some u → (w.alloc (.cells #[.bool true, .int .i64 tag, .slice none 0 0] 68)).cell? ((⟨w.heap.size, 0, none⟩ : Addr).add j) = some u := by
    intro j u hj
    have hb := World.alloc_heap_new w (.cells #[.bool true, .int .i64 tag, .slice none 0 0] 68)
    rw [add_cell]
    simp only [World.cell?, hb]
    simpa using hj
  have hca : ∀ X, Ch (fun _ => False) w (w.alloc X) := fun X => (Ch.refl _ w).al X
  have hr1 : (w.alloc (.cells #[.bool true, .int .i64 tag, .slice none 0 0] 68)).ownsRow 0 68 3 (.slice a L.length cap) L.length (L.flatMap Rn.cells) := ownsRow_keep hrow (fun k hk => (hca _).same k (ownsRow_lt hrow hk) (fun h => h))
  have hfa : ∀ i, w.frozen? ⟨c, i, none⟩ = false := fun i => by have := h.blk; simp [World.frozen?, this]
  go_enter Try.func14, Try.ntmps14
  go_wp2_with (at_builtin; go_must (refine list_append rfl (.tmp 8) (.tmp 11) 47 rfl 68 (.agg #[.bool false, .int .i64 0, .slice none 0 0]) 3 40 Try.underlying47 Try.infoR rfl (by decide) (.slice a L.length cap) L.length (L.flatMap Rn.cells) rfl hr1 ⟨w.heap.size, 0, none⟩ 1 1 [.bool true, .int .i64 tag, .slice none 0 0] rfl rfl hAc (by simp [Value.oneCell']) (by unfold maxLen; omega) (by omega) ?_); intro v' w1 hrow1 hgrow hblk; (obtain ⟨g', cap', rfl⟩ := ownsRow_succ hrow1); (obtain ⟨e1, e2⟩ := app_keep (hca _) hgrow hvc h0 hfa))
  go_end0
  have hU := h.append (v' := .slice (some ⟨g', 0, none⟩) (L.length + 1) cap') (M := [⟨.slice none 0 0, true, tag, []⟩]) (app_ch (hca _) hgrow) (by simpa [Rn.cells] using hrow1) (app_more (hca _) hblk) ?a1 ?a2 (by simp)
  case a1 =>
    intro q hq
    obtain rfl : q = _ := by simpa using hq
    exact ⟨rfl, .inl ⟨rfl, rfl⟩⟩
  case a2 =>
    intro q hq k hk
    obtain rfl : q = _ := by simpa using hq
    cases hk
  exact ⟨rfl, _, _, hU⟩

/-- The last segments are given up. -/
theorem RtM.cut {w : World} {c g cap : Nat} {L : List Rn} {m : Nat} (h : RtM w c (.slice (some ⟨g, 0, none⟩) L.length cap) L) (hm : m ≤ L.length) :
    RtM (w.setCell ⟨c, 0, none⟩ (.slice (some ⟨g, 0, none⟩) m cap)) c (.slice (some ⟨g, 0, none⟩) m cap) (L.take m) ∧ Ch (rtown c (.slice (some ⟨g, 0, none⟩) L.length cap) L) w (w.setCell ⟨c, 0, none⟩ (.slice (some ⟨g, 0, none⟩) m cap)) ∧
    (∀ k, rtown c (.slice (some ⟨g, 0, none⟩) m cap) (L.take m) k → rtown c (.slice (some ⟨g, 0, none⟩) L.length cap) L k) := by
  have hgc : g ≠ c := fun e => h.nc (.inl (by rw [← e]; rfl))
  have hl : (L.take m).length = m := by simp; omega
  have hsub : ∀ q ∈ L.take m, q ∈ L := fun q hq => List.mem_of_mem_take hq
  have hrow := own_trunc h.rs.row hm
  have hflat : (L.flatMap Rn.cells).take (m * 3) = (L.take m).flatMap Rn.cells := by
    conv => lhs; rw [← List.take_append_drop m L, List.flatMap_append]
    rw [List.take_append_of_le_length (by rw [rflat_len, hl]; exact Nat.le_refl _), List.take_of_length_le (by rw [rflat_len, hl]; exact Nat.le_refl _)]
  rw [hflat] at hrow
  refine ⟨⟨blk_set h.blk, ⟨?_, fun q hq => ?_, ?_, fun q hq => h.rs.dv q (hsub q hq)⟩, ?_⟩, ?_, ?_⟩
  · rw [hl]
    exact ownsRow_keep hrow (fun k hk => Below.heap_setCell _ _ _ k (fun e => by have e2 : some g = some k := hk; cases e2; exact hgc e))
  · exact ownsRow_keep (h.rs.us q (hsub q hq)) (fun k hk => Below.heap_setCell _ _ _ k (fun e => h.nc (.inr ⟨q, hsub q hq, by rw [← show k = c from e]; exact hk⟩)))
  · exact h.rs.ds.sublist (List.take_sublist m L)
  · rintro (e | ⟨q, hq, e⟩)
    · exact h.nc (.inl e)
    · exact h.nc (.inr ⟨q, hsub q hq, e⟩)
  · exact (Ch.refl (rtown c (.slice (some ⟨g, 0, none⟩) L.length cap) L) w).set (a := ⟨c, 0, none⟩) (.inl rfl) _
  · rintro k (e | e | ⟨q, hq, e⟩)
    · exact .inl e
    · exact .inr (.inl e)
    · exact .inr (.inr ⟨q, hsub q hq, e⟩)

set_option maxHeartbeats 4000000 in
theorem rclose_no (w : World) (c : Nat) (v : Value) (A : List Rn) (r : Rn) (h : RtM w c v (A ++ [r])) (hA : A.length < 1000000) (hno : A = [] ∨ 0 < r.s.l.length) :
    Calls Try.prog 16 #[.pointer (some ⟨c, 0, none⟩)] w fun e w' => e = .returned (.tuple #[.int .i64 0, .bool false, .bool false]) ∧ Same w w' := by
  obtain ⟨g, cap, rfl, c0, c1, c2, hf, hgc, hug, huc, hgl, hcap⟩ := h.last
  obtain ⟨h0, hf0⟩ := h.cell
  have hlast := last_any w c g A.length cap h0 (by omega)
  have hru := h.rs.us r (by simp)
  obtain ⟨a, cp, hur, _⟩ := row_slice hru
  rw [hur] at c2
  have h0d : w.drew.cell? ⟨c, 0, none⟩ = some (.slice (some ⟨g, 0, none⟩) (A.length + 1) cap) := h0
  have c2d : w.drew.cell? ⟨g, A.length * 3 + 2, none⟩ = some (.slice a r.s.l.length cp) := c2
  by_cases hA0 : A.length = 0
  · rw [hA0] at h0d hlast
    go_enter Try.func16, Try.ntmps16
    go_wp2_with (go_at_call 28; refine hlast.mono ?_; clear hlast; rintro e w9 ⟨rfl, rfl⟩; dsimp only)
    refine bodyPost_ret (v := .tuple #[.int .i64 0, .bool false, .bool false]) (by simp [results, Try.results16, go_sem]) rfl ?_
    exact ⟨rfl, rfl⟩
  · have hpos : (0 : Int) < (r.s.l.length : Int) := by rcases hno with e | e; exact absurd (by rw [e]; rfl) hA0; omega
    have hne : ¬ ((A.length : Int) + 1 = 1) := by omega
    have hne2 : ¬ ((A.length : Int) = 0) := by omega
    go_enter Try.func16, Try.ntmps16
    go_wp2_with (go_at_call 28; refine hlast.mono ?_; clear hlast; rintro e w9 ⟨rfl, rfl⟩; dsimp only)
    all_goals
      refine bodyPost_ret (v := .tuple #[.int .i64 0, .bool false, .bool false]) (by simp [results, Try.results16, go_sem]) rfl ?_
      exact ⟨rfl, rfl⟩

set_option maxHeartbeats 4000000 in
theorem rclose_yes (w : World) (c : Nat) (v : Value) (A : List Rn) (r : Rn) (h : RtM w c v (A ++ [r])) (hA : A.length < 1000000) (hA0 : 0 < A.length) (hz : r.s.l = []) :
    Calls Try.prog 16 #[.pointer (some ⟨c, 0, none⟩)] w fun e w' => e = .returned (.tuple #[.int .i64 r.s.tag, .bool r.s.has, .bool true]) ∧ ∃ v', RtM w' c v' A ∧ Ch (rtown c v (A ++ [r])) w w' ∧ More w (rtown c v (A ++ [r])) (rtown c v' A) := by
  obtain ⟨g, cap, rfl, c0, c1, c2, hf, hgc, hug, huc, hgl, hcap⟩ := h.last
  obtain ⟨h0, hf0⟩ := h.cell
  have hlast := last_any w c g A.length cap h0 (by omega)
  have hru := h.rs.us r (by simp)
  obtain ⟨a, cp, hur, _⟩ := row_slice hru
  rw [hur, hz] at c2
  have h0d : w.drew.cell? ⟨c, 0, none⟩ = some (.slice (some ⟨g, 0, none⟩) (A.length + 1) cap) := h0
  have hf0d : w.drew.frozen? ⟨c, 0, none⟩ = false := hf0
  have c0d : w.drew.cell? ⟨g, A.length * 3, none⟩ = some (.bool r.s.has) := c0
  have c1d : w.drew.cell? ⟨g, A.length * 3 + 1, none⟩ = some (.int .i64 r.s.tag) := c1
  have c2d : w.drew.cell? ⟨g, A.length * 3 + 2, none⟩ = some (.slice a 0 cp) := c2
  have hne : ¬ ((A.length : Int) + 1 = 1) := by omega
  have hne2 : ¬ ((A.length : Int) = 0) := by omega
  have hne3 : ¬ (A.length = 0) := by omega
  have hmx : Try.prog.follows .mixedOrders = true := by kernel_rfl
  have hw : IntKind.i64.wrap (((A.length : Int) + 1) - 1) = (A.length : Int) := by rw [IntWalk.i64_in _ (by omega)]; omega
  have hw2 : IntKind.i64.wrap (A.length : Int) = (A.length : Int) := IntWalk.i64_in _ (by omega)
  have hi0 : (0 : Int) ≤ (A.length : Int) := by omega
  have hi1 : (A.length : Int) ≤ (cap : Int) := by omega
  go_enter Try.func16, Try.ntmps16
  go_upto_region 6 with (go_at_call 28; refine hlast.mono ?_; clear hlast; rintro e w9 ⟨rfl, rfl⟩; dsimp only)
  go_region
  all_goals
    go_wp2
    refine bodyPost_ret (v := .tuple #[.int .i64 r.s.tag, .bool r.s.has, .bool true]) (by simp [results, Try.results16, go_sem]) rfl ?_
    have hlen : (A ++ [r]).length = A.length + 1 := by simp
    rw [← hlen] at h
    obtain ⟨f1, f2, f3⟩ := h.cut (m := A.length) (by simp)
    have et : (A ++ [r]).take A.length = A := by simp
    rw [et] at f1 f3
    rw [hlen] at f2 f3
    exact ⟨rfl, _, f1.dr.dr, f2.dr.dr, fun k hk => .inl (f3 k hk)⟩
end Go.Proofs.Ytknjbiineihgfaa
