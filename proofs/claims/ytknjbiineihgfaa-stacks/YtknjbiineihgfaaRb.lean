/-
  The document's Push, Top, Pop, Open, Close.
-/
import Derived.Test.YtknjbiineihgfaaRa
set_option linter.unusedVariables false
set_option linter.unusedSimpArgs false
namespace Go.Proofs.Ytknjbiineihgfaa
open Go.RowKit

/-- The cells of the last segment. -/
theorem RtM.last {w : World} {c : Nat} {v : Value} {A : List Rn} {r : Rn} (h : RtM w c v (A ++ [r])) :
    ∃ g cap, v = .slice (some ⟨g, 0, none⟩) (A.length + 1) cap ∧ w.cell? ⟨g, A.length * 3, none⟩ = some (.bool r.s.has) ∧ w.cell? ⟨g, A.length * 3 + 1, none⟩ = some (.int .i64 r.s.tag) ∧ w.cell? ⟨g, A.length * 3 + 2, none⟩ = some r.u ∧ (∀ i, w.frozen? ⟨g, i, none⟩ = false) ∧ g ≠ c ∧ r.u.ownBlock ≠ some g ∧ r.u.ownBlock ≠ some c ∧ g < w.heap.size ∧ A.length + 1 ≤ cap := by
  obtain ⟨g, cap, rfl, hc⟩ := h.rs.form (by simp)
  have hrow := h.rs.row
  have hl : (A ++ [r]).length = A.length + 1 := by simp
  have hget : (A ++ [r])[A.length]? = some r := by simp
  refine ⟨g, cap, by rw [hl], row_cell hrow _ _ ((rflat_get _ _ 0 r hget (by decide)).trans rfl), row_cell hrow _ _ ((rflat_get _ _ 1 r hget (by decide)).trans rfl), row_cell hrow _ _ ((rflat_get _ _ 2 r hget (by decide)).trans rfl), own_frozen hrow, fun e => h.nc (.inl (by rw [← e]; rfl)), fun e => h.rs.dv r (by simp) g e rfl, fun e => h.nc (.inr ⟨r, by simp, e⟩), ownsRow_lt hrow rfl, by omega⟩

/-- The last segment's frames are other ones. -/
theorem RtM.upd {w w1 : World} {c g cap : Nat} {A : List Rn} {r : Rn} {u' : Value} {l' : List Int} (h : RtM w c (.slice (some ⟨g, 0, none⟩) (A.length + 1) cap) (A ++ [r])) (hc1 : Ch (fun k => r.u.ownBlock = some k) w w1)
    (hu : w1.ownsRow 0 3 1 u' l'.length (l'.map (Value.int .i64))) (hm : ∀ k, u'.ownBlock = some k → r.u.ownBlock = some k ∨ w.heap.size ≤ k) :
    RtM (w1.setCell ⟨g, A.length * 3 + 2, none⟩ u') c (.slice (some ⟨g, 0, none⟩) (A.length + 1) cap) (A ++ [⟨u', r.s.has, r.s.tag, l'⟩]) ∧
    Ch (rtown c (.slice (some ⟨g, 0, none⟩) (A.length + 1) cap) (A ++ [r])) w (w1.setCell ⟨g, A.length * 3 + 2, none⟩ u') ∧
    More w (rtown c (.slice (some ⟨g, 0, none⟩) (A.length + 1) cap) (A ++ [r])) (rtown c (.slice (some ⟨g, 0, none⟩) (A.length + 1) cap) (A ++ [⟨u', r.s.has, r.s.tag, l'⟩])) := by
  have hrow := h.rs.row
  have hl : (A ++ [r]).length = A.length + 1 := by simp
  rw [hl] at hrow
  have hgl : g < w.heap.size := ownsRow_lt hrow rfl
  have hug : r.u.ownBlock ≠ some g := fun e => h.rs.dv r (by simp) g e rfl
  have huc : r.u.ownBlock ≠ some c := fun e => h.nc (.inr ⟨r, by simp, e⟩)
  have hgc : g ≠ c := fun e => h.nc (.inl (by rw [← e]; rfl))
  have hcl : c < w.heap.size := h.lt (.inl rfl)
  have hu'g : u'.ownBlock ≠ some g := fun e => by rcases hm g e with e | e; exact hug e; omega
  have hrow1 : w1.ownsRow 0 68 3 (.slice (some ⟨g, 0, none⟩) (A.length + 1) cap) (A.length + 1) ((A ++ [r]).flatMap Rn.cells) := ownsRow_keep hrow (fun k hk => hc1.same k (ownsRow_lt hrow hk) (fun e => by have e2 : some g = some k := hk; cases e2; exact hug e))
  have hrow2 := own_set hrow1 (A.length * 3 + 2) u' (by rw [rflat_len, hl]; omega)
  have hset : ((A ++ [r]).flatMap Rn.cells).set (A.length * 3 + 2) u' = (A ++ [(⟨u', r.s.has, r.s.tag, l'⟩ : Rn)]).flatMap Rn.cells := by
    rw [List.flatMap_append, List.flatMap_append, List.set_append, if_neg (by rw [rflat_len]; omega), rflat_len]
    simp [Rn.cells]
  rw [hset] at hrow2
  have hout : ∀ q ∈ A, ∀ k, q.u.ownBlock = some k → r.u.ownBlock ≠ some k ∧ k ≠ g ∧ k < w.heap.size := fun q hq k hk => by
    refine ⟨?_, fun e => h.rs.dv q (by simp [hq]) k hk (by rw [e]; rfl), ownsRow_lt (h.rs.us q (by simp [hq])) hk⟩
    have := (List.pairwise_append.1 h.rs.ds).2.2 q hq r (by simp) k hk
    exact this
  have hl2 : (A ++ [(⟨u', r.s.has, r.s.tag, l'⟩ : Rn)]).length = A.length + 1 := by simp
  refine ⟨⟨?_, ⟨by rw [hl2]; exact hrow2, ?_, ?_, ?_⟩, ?_⟩, ?_, ?_⟩
  · exact blk_other ((hc1.same c hcl huc).trans h.blk) (by exact fun e => hgc e.symm)
  · intro q hq
    rcases List.mem_append.1 hq with hq | hq
    · refine ownsRow_keep (h.rs.us q (by simp [hq])) (fun k hk => ?_)
      obtain ⟨e1, e2, e3⟩ := hout q hq k hk
      exact (Below.heap_setCell _ _ _ k (by exact e2)).trans (hc1.same k e3 e1)
    · obtain rfl : q = _ := by simpa using hq
      exact ownsRow_keep hu (fun k hk => Below.heap_setCell _ _ _ k (fun e => hu'g (by rw [← show k = g from e]; exact hk)))
  · rw [List.pairwise_append]
    refine ⟨(List.pairwise_append.1 h.rs.ds).1, by simp, fun q hq q' hq' k hk => ?_⟩
    obtain rfl : q' = _ := by simpa using hq'
    obtain ⟨e1, e2, e3⟩ := hout q hq k hk
    intro e
    rcases hm k e with e | e
    · exact e1 e
    · omega
  · intro q hq k hk
    rcases List.mem_append.1 hq with hq | hq
    · exact h.rs.dv q (by simp [hq]) k hk
    · obtain rfl : q = _ := by simpa using hq
      intro e
      have e2 : some g = some k := e
      exact hu'g (by rw [hk]; exact e2.symm)
  · rintro (e | ⟨q, hq, e⟩)
    · exact h.nc (.inl e)
    · rcases List.mem_append.1 hq with hq | hq
      · exact h.nc (.inr ⟨q, by simp [hq], e⟩)
      · obtain rfl : q = _ := by simpa using hq
        rcases hm c e with e | e
        · exact huc e
        · omega
  · exact (hc1.mono (fun k hk => .inr (.inr ⟨r, by simp, hk⟩))).set (a := ⟨g, A.length * 3 + 2, none⟩) (.inr (.inl rfl)) _
  · rintro k (e | e | ⟨q, hq, e⟩)
    · exact .inl (.inl e)
    · exact .inl (.inr (.inl e))
    · rcases List.mem_append.1 hq with hq | hq
      · exact .inl (.inr (.inr ⟨q, by simp [hq], e⟩))
      · obtain rfl : q = _ := by simpa using hq
        exact (hm k e).imp_left (fun e => .inr (.inr ⟨r, by simp, e⟩))

theorem RtM.dr {w : World} {c : Nat} {v : Value} {L : List Rn} (h : RtM w c v L) : RtM w.drew c v L := h.keep (fun _ _ => rfl)

theorem app_keep {W Wa w1 : World} {u z : Value} {g i : Nat} (ha : Ch (fun _ => False) W Wa) (hgrow : Wa.grownBy w1 u.ownBlock) (hu : u.ownBlock ≠ some g) (hc : W.cell? ⟨g, i, none⟩ = some z) (hf : ∀ i, W.frozen? ⟨g, i, none⟩ = false) : w1.cell? ⟨g, i, none⟩ = some z ∧ w1.frozen? ⟨g, i, none⟩ = false := by
  have hl : g < W.heap.size := block_lt_of_cell hc
  have h1 : w1.heap[g]? = W.heap[g]? := (hgrow.block g (Nat.lt_of_lt_of_le hl ha.size) (fun e => hu e.symm)).trans (ha.same g hl (fun h => h))
  refine ⟨?_, ?_⟩
  · rw [← hc]; simp only [World.cell?, h1]
  · rw [← hf i]; simp only [World.frozen?, h1]
theorem app_ch {W Wa w1 : World} {u : Value} (ha : Ch (fun _ => False) W Wa) (hgrow : Wa.grownBy w1 u.ownBlock) : Ch (fun k => u.ownBlock = some k) W w1 := (ha.mono (fun _ h => h.elim)).trans (Ch.grown hgrow (fun k hk => hk)) (fun k hk => .inl hk)
theorem app_more {W Wa : World} {u v' : Value} (ha : Ch (fun _ => False) W Wa) (hblk : v'.ownBlock = u.ownBlock ∨ v'.ownBlock = some Wa.heap.size) : ∀ k, v'.ownBlock = some k → u.ownBlock = some k ∨ W.heap.size ≤ k := by
  intro k hk
  rcases hblk with e | e
  · exact .inl (e.symm.trans hk)
  · rw [e] at hk; cases hk; exact .inr ha.size

set_option maxHeartbeats 4000000 in
theorem rpush_any (w : World) (c : Nat) (v : Value) (A : List Rn) (r : Rn) (f : Int) (h : RtM w c v (A ++ [r])) (hA : A.length < 1000000) (hl : r.s.l.length < 1000000000) :
    Calls Try.prog 8 #[.pointer (some ⟨c, 0, none⟩), .int .i64 f] w fun e w' => e = .returned (.tuple #[]) ∧ ∃ v' u', RtM w' c v' (A ++ [⟨u', r.s.has, r.s.tag, r.s.l ++ [f]⟩]) ∧ Ch (rtown c v (A ++ [r])) w w' ∧ More w (rtown c v (A ++ [r])) (rtown c v' (A ++ [⟨u', r.s.has, r.s.tag, r.s.l ++ [f]⟩])) := by
  obtain ⟨g, cap, rfl, c0, c1, c2, hf, hgc, hug, huc, hgl, hcap⟩ := h.last
  obtain ⟨h0, hf0⟩ := h.cell
  have hlast := last_any w c g A.length cap h0 (by omega)
  have hru := h.rs.us r (by simp)
  obtain ⟨a, cp, hur, _⟩ := row_slice hru
  rw [hur] at c2
  have hd := h.dr
  have c2d : w.drew.cell? ⟨g, A.length * 3 + 2, none⟩ = some (.slice a r.s.l.length cp) := c2
  have hAc : ∀ j u, ([.int .i64 f] : List Value)[j]? = some u → (w.drew.alloc (.cells #[.int .i64 f] 3)).cell? ((⟨w.heap.size, 0, none⟩ : Addr).add j) = some u := by
    intro j u hj
    have hb := World.alloc_heap_new w.drew (.cells #[.int .i64 f] 3)
    rw [add_cell]
    have hb2 : (w.drew.alloc (.cells #[.int .i64 f] 3)).heap[w.heap.size]? = some (.cells #[.int .i64 f] 3 (0, 0)) := hb
    simp only [World.cell?, hb2]
    simpa using hj
  have hr1 : (w.drew.alloc (.cells #[.int .i64 f] 3)).ownsRow 0 3 1 (.slice a r.s.l.length cp) r.s.l.length (r.s.l.map (Value.int .i64)) := by
    rw [← hur]; exact ownsRow_keep hru (fun k hk => (Ch.alloc (fun _ => False) w.drew _).same k (ownsRow_lt hru hk) (fun h => h))
  have hug' : (Value.slice a r.s.l.length cp).ownBlock ≠ some g := by rw [← hur]; exact hug
  have hca : ∀ X, Ch (fun _ => False) w (w.alloc X).drew := fun X => ((Ch.refl _ w).al X).dr
  go_enter Try.func8, Try.ntmps8
  go_wp2_with (first | (go_at_call 28; refine hlast.mono ?_; clear hlast; rintro e w9 ⟨rfl, rfl⟩; dsimp only) | (at_builtin; go_must (refine list_append rfl (.tmp 11) (.tmp 13) 39 rfl 3 (.int .i64 0) 1 8 Try.underlying39 Try.info3 rfl (by decide) (.slice a r.s.l.length cp) r.s.l.length (r.s.l.map (Value.int .i64)) rfl hr1 ⟨w.heap.size, 0, none⟩ 1 1 [.int .i64 f] rfl rfl hAc (by simp [Value.oneCell']) (by unfold maxLen; omega) (by omega) ?_); intro v' w1 hrow1 hgrow hblk; (obtain ⟨g', cap', rfl⟩ := ownsRow_succ hrow1); (obtain ⟨e1, e2⟩ := app_keep (hca _) hgrow hug' c2 hf)))
  go_end0
  rw [← hur] at hgrow hblk
  have hU := h.upd (u' := .slice (some ⟨g', 0, none⟩) (r.s.l.length + 1) cap') (l' := r.s.l ++ [f]) (app_ch (hca _) hgrow) (by simpa using hrow1) (app_more (hca _) hblk)
  exact ⟨rfl, _, _, hU⟩
end Go.Proofs.Ytknjbiineihgfaa
