/-
  Ranging over the tags of a row.
-/
import Derived.Test.YtpjbfdpblgjmfaaGreatDoorZd
set_option linter.unusedVariables false
set_option linter.unusedSimpArgs false
namespace Go.Proofs.YtpjbfdpblgjmfaaGreatDoor
open Go.RowKit Go.Shelf
attribute [local go_sem] Oper.semAt_some

set_option maxRecDepth 100000 in
set_option maxHeartbeats 4000000 in
theorem Tags1_goes (w : World) (D : Nat → Prop) (B b : Nat) (S : List Sn) (z : Sn) (a : Option Addr) (cap g : Nat) (cnt : Int) (hB : w.cell? ⟨B, 0, none⟩ = some (.pointer (some ⟨b, 0, none⟩))) (hDB : D B)
    (hDl : ∀ k, D k → k < w.heap.size) (h : RowAt D w b S z a cap g cnt) (hn : S.length < 1000000000) :
    Goes Tryz.prog 75 #[] #[.pointer (some ⟨B, 0, none⟩)] pairV (flatT 0 ((S ++ [z]).map Sn.s)) D w := by
  intro l J O hJ hDO hY h0
  obtain ⟨hz0, hz1, hz2, hz3⟩ := h.fz
  have hv := h.fv
  have hcnt := h.fc
  have hBl : B < w.heap.size := block_lt_of_cell hB
  refine callsIn_of_wp_marks Tryz.func75 rfl trivial ?_ rfl
  simp only [Tryz.ntmps75, List.size_toArray, List.length_cons, List.length_nil, Nat.reduceAdd, Nat.reduceSub, Array.replicate_succ, Array.replicate_zero, List.push_toArray, List.append_toArray, List.nil_append, List.cons_append]
  have hbl : b < w.heap.size := block_lt_of_cell hv
  have ka : ∀ (X : Obj) (o : Nat), (w.alloc X).cell? ⟨b, o, none⟩ = w.cell? ⟨b, o, none⟩ := fun X o => (Ch.alloc (fun _ => False) w X).cell (p := ⟨b, o, none⟩) hbl (fun h => h)
  have kB : ∀ (X : Obj), (w.alloc X).cell? ⟨B, 0, none⟩ = w.cell? ⟨B, 0, none⟩ := fun X => (Ch.alloc (fun _ => False) w X).cell (p := ⟨B, 0, none⟩) hBl (fun h => h)
  have d0 := (ka (.cells #[.func (.yield l) #[] #[]] 189) 0).trans hv
  have d1 := (ka (.cells #[.func (.yield l) #[] #[]] 189) 1).trans hz0
  have d2 := (ka (.cells #[.func (.yield l) #[] #[]] 189) 2).trans hz1
  have d3 := (ka (.cells #[.func (.yield l) #[] #[]] 189) 3).trans hz2
  have d4 := (ka (.cells #[.func (.yield l) #[] #[]] 189) 4).trans hz3
  have d5 := (ka (.cells #[.func (.yield l) #[] #[]] 189) 5).trans hcnt
  have dB := (kB (.cells #[.func (.yield l) #[] #[]] 189)).trans hB
  clear ka kB
  gi_wp2_with (refine ⟨trivial, rfl, (callsIn_wide.2 (all_any _ _ _ _ _ _ _)).mono ?_⟩; rintro e w' ⟨rfl, rfl⟩; dsimp only)
  obtain ⟨W0, hW0⟩ : ∃ W0, (w.alloc (.cells #[.func (.yield l) #[] #[]] 189)).alloc (.cells #[.slice a S.length cap, .pointer z.p, .int .i64 z.s.l.length, .pointer z.s.tag, .bool z.s.has, .int .i64 cnt] 99) = W0 := ⟨_, rfl⟩
  have hc0 : Ch (fun _ => False) w W0 := by rw [← hW0]; exact (Ch.alloc _ _ _).trans (Ch.alloc _ _ _) (fun i h => .inl h)
  have hs0 : W0.heap.size = w.heap.size + 2 := by rw [← hW0]; simp
  have b0 : W0.heap[w.heap.size]? = some (.cells #[.func (.yield l) #[] #[]] 189 (0, 0)) := by
    rw [← hW0]; exact (Below.heap_alloc _ _ _ (by simp)).trans (World.alloc_heap_new w _)
  have b1 : W0.heap[w.heap.size + 1]? = some (.cells #[.slice a S.length cap, .pointer z.p, .int .i64 z.s.l.length, .pointer z.s.tag, .bool z.s.has, .int .i64 cnt] 99 (0, 0)) := by
    rw [← hW0]; have := World.alloc_heap_new (w.alloc (.cells #[.func (.yield l) #[] #[]] 189)) (.cells #[.slice a S.length cap, .pointer z.p, .int .i64 z.s.l.length, .pointer z.s.tag, .bool z.s.has, .int .i64 cnt] 99); rwa [World.size_alloc] at this
  simp only [World.size_alloc]
  rw [hW0]
  clear hW0 d0 d1 d2 d3 d4 d5 dB
  have hR0 : RowAt D W0 b S z a cap g cnt := h.keep (fun _ h => h) (fun k hk => hc0.same k (hDl k hk) (fun h => h))
  have hO : ∀ k, O k → k < w.heap.size := fun k hk => hJ.lt _ _ _ _ h0 hk
  refine wp_range (gf := 102) (bd := #[]) (lb := #[.pointer (some ⟨w.heap.size + 1, 0, none⟩)]) (encs := placeV) (xs := places (w.heap.size + 1) g S.length) (D := fun k => k = w.heap.size + 1) (O := O) rfl (enters_of Tryz.func102 (by kernel_rfl) rfl)
    (fun W1 hc1 => all1_goes W1 (w.heap.size + 1) g S.length a cap ?c1 h.fa (by omega)) (fun k hk => by omega) (fun _ => rfl) (fun k hk hk2 => by have := hO k hk2; omega)
    (fun pre O1 W => J (flatT 0 (((S ++ [z]).map Sn.s).take pre.length)) O1 W)
    ⟨fun s O' X Y hs heo hsz hsm => hJ.keep _ _ _ _ hs heo hsz (fun k hk => hsm k (hk.imp_right (fun h => by omega))), fun s O' X k hs hk => hJ.lt _ _ _ _ hs hk⟩
    (hJ.keep _ _ _ _ h0 hc0.eo hc0.size (fun k hk => hc0.same k (by rcases hk with h | h; exact hO k h; exact h) (fun h => h)))
    (fun x => { tmps := #[.func (.yield l) #[] #[], .pointer (some ⟨B, 0, none⟩), .pointer (some ⟨w.heap.size, 0, none⟩), .int .i64 x.1, .pointer (some x.2), .pointer (some ⟨b, 0, none⟩), .pointer (some ⟨b, 0, none⟩), rowV (.slice a S.length cap) (.pointer z.p) (.int .i64 z.s.l.length) (.pointer z.s.tag) (.bool z.s.has) (.int .i64 cnt), .func (.func 102) #[] #[.pointer (some ⟨w.heap.size + 1, 0, none⟩)], .int .i64 x.1, .pointer (some x.2), undef, undef, undef, undef, undef, undef, undef, undef, undef, undef, undef, undef, undef, undef], defers := [] })
    ?assign ?body ?done
  case c1 => simp [World.cell?, (hc1.same (w.heap.size + 1) (by omega) (fun h => h)).trans b1]
  case assign =>
    intro l2 x W K hK
    simp only [placeV, List.zip_toArray, List.foldl_toArray, List.zip_cons_cons, List.zip_nil_right, List.foldl_cons, List.foldl_nil, List.setIfInBounds_toArray, List.set_cons_zero, List.set_cons_succ]
    gi_wp2
    exact hK
  case body =>
    rintro l2 pre x O1 W hJ1 ⟨rest, hx⟩ hD1 hc
    rw [hs0] at hD1
    obtain ⟨i, q⟩ := x
    have hi : pre.length < S.length + 1 := by
      have := congrArg List.length hx
      simp [places] at this
      omega
    have hxi : (i, q) = (pre.length, if pre.length = S.length then (⟨w.heap.size + 1, 1, none⟩ : Addr) else ⟨g, pre.length * 4, none⟩) := by
      have e1 : (places (w.heap.size + 1) g S.length)[pre.length]? = some (i, q) := by rw [hx]; simp
      rw [← Option.some_inj, ← e1]
      simp [places, hi]
    have hz9 : SegAt W0 (w.heap.size + 1) 1 z := ⟨by simp [World.cell?, b1], by simp [World.cell?, b1], by simp [World.cell?, b1], by simp [World.cell?, b1]⟩
    obtain ⟨x, c, o, hxx, hq, hseg, hchn, hcc⟩ := hR0.place hz9 hi
    rw [hq] at hxi
    obtain ⟨rfl, rfl⟩ := Prod.mk.inj hxi
    have hcl : c < W0.heap.size ∧ ¬ O c := by
      rcases hcc with e | e
      · subst e; exact ⟨by omega, fun h => by have := hO _ h; omega⟩
      · exact ⟨by have := hDl c e; omega, hDO c e⟩
    have hseg1 : SegAt W c o x := hseg.keep (hc.same c hcl.1 hcl.2)
    have hch1 : Chain D W x.p x.s.l.reverse := hchn.keep (fun _ h => h) (fun k hk => hc.same k (by have := hDl k hk; omega) (hDO k hk))
    have hO1 : ∀ k, O1 k → k < W.heap.size := fun k hk => hJ.lt _ _ _ _ hJ1 hk
    have hb0 : W.heap[w.heap.size]? = some (.cells #[.func (.yield l) #[] #[]] 189 (0, 0)) := (hc.same _ (by omega) (fun h => by have := hO _ h; omega)).trans b0
    have hb0s : w.heap.size < W.heap.size := (Array.getElem?_eq_some_iff.1 hb0).1
    have hsx : ((S ++ [z]).map Sn.s)[pre.length]? = some x.s := by rw [List.getElem?_map, hxx]; rfl
    obtain ⟨hfl, hfl2⟩ := flatT_at hsx
    clear hseg hchn hz9 hx hch1 hsx
    obtain ⟨-, -, k2, k3⟩ := hseg1
    have hyb : W.cell? ⟨w.heap.size, 0, none⟩ = some (.func (.yield l) #[] #[]) := by simp [World.cell?, hb0]
    have hmx : Tryz.prog.follows .mixedOrders = true := by kernel_rfl
    have e9 : List.map Sn.s S ++ [z.s] = (S ++ [z]).map Sn.s := by simp
    cases hh : x.s.has with
    | false =>
      rw [hh] at k3 hfl hfl2
      have fin : ∃ O2, J (flatT 0 (List.take (pre.length + 1) (List.map Sn.s S ++ [z.s]))) O2 W.drew ∧ Ch O1 W W.drew ∧ ∀ (k : Nat), O2 k → O1 k ∨ W.heap.size ≤ k := by
        refine ⟨O1, ?_, Ch.drew _ _, fun k h => .inl h⟩
        rw [e9, hfl2]
        exact hJ.keep _ _ W _ (by simpa using hJ1) ⟨rfl, rfl⟩ (Nat.le_refl _) (fun _ _ => rfl)
      clear hJ1 hfl hfl2 e9 hD1 hc hO1 hb0 hb0s hxx hq hi hO hR0 b1 b0 hs0 hc0 hcnt hv hz3 hz2 hz1 hz0 h0 hY hDO hJ h hn hDl hDB hB hBl hbl hcl hcc hxi hh
      gi_wp2
      gi_region_with_o (refine ⟨fun _ h => (by cases h), ?_⟩)
      all_goals gi_wp2
      all_goals exact fin
    | true =>
      rw [hh] at k3 hfl hfl2
      obtain ⟨fn, tmps, assign, body, hy, hR⟩ := hY _ ((pre.length : Int), x.s.tag) O1 W.drew (hJ.keep _ _ _ _ hJ1 ⟨rfl, rfl⟩ (Nat.le_refl _) (fun _ _ => rfl)) ⟨_, by rw [hfl]; simp; rfl⟩
      dsimp only [pairV] at hy
      have hR := hR.mono (R' := fun e W3 => e = .returned (.bool true) ∧ ∃ O2, J (flatT 0 (List.take (pre.length + 1) (List.map Sn.s S ++ [z.s]))) O2 W3 ∧ Ch O1 W W3 ∧ ∀ (k : Nat), O2 k → O1 k ∨ W.heap.size ≤ k) (by
        rintro e W3 ⟨rfl, O3, hJ3, hc3, hs3⟩
        exact ⟨rfl, O3, by rw [e9, hfl2]; simpa using hJ3, (Ch.drew _ _).trans hc3 (fun i h => .inl h), hs3⟩)
      clear hJ1 hfl hfl2 e9 hD1 hc hO1 hb0 hb0s hxx hq hi hO hR0 b1 b0 hs0 hc0 hcnt hv hz3 hz2 hz1 hz0 h0 hY hDO hJ h hn hDl hDB hB hBl hbl hcl hcc hxi hh
      gi_wp2
      gi_region_with_o (refine ⟨rfl, hR.mono ?_⟩; rintro e W3 ⟨rfl, fin⟩; dsimp only)
      all_goals gi_wp2
      all_goals exact fin
  case done =>
    rintro D1 O2 W hD1 hO2 hJ2 hc2 hs2 hk
    have e : (places (w.heap.size + 1) g S.length).length = S.length + 1 := by simp [places]
    rw [e, List.take_of_length_le (by simp)] at hJ2
    gi_wp2
    refine ⟨by simp, .inl ⟨_, _, rfl, run_takeDeferred hk, ?_⟩⟩
    have hD1l : D1 < W.heap.size := (Array.getElem?_eq_some_iff.1 hk).1
    have hc4 : Ch (fun k => k = D1) W (W.putObj D1 (.deferred none)) := Ch.put _ _ _ rfl
    refine ⟨_, results_none rfl _ _ _, ⟨_, rfl⟩, O2, hJ.keep _ _ _ _ hJ2 hc4.eo hc4.size (fun k hk2 => hc4.same k ?_ (fun e => ?_)), (hc0.mono (fun i h => h.elim)).trans (hc2.trans hc4 (fun i e => .inr (by omega))) (fun i h => .inl h), fun k h => (hs2 k h).imp_right (fun h => by omega)⟩
    · rcases hk2 with h | h
      · exact hJ.lt _ _ _ _ hJ2 h
      · have := hc2.size; omega
    · rcases hk2 with h | h
      · exact hO2 (e ▸ h)
      · omega
end Go.Proofs.YtpjbfdpblgjmfaaGreatDoor
