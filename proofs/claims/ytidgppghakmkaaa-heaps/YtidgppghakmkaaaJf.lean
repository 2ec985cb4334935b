/-
  The document's Make.
-/
import Derived.Test.YtidgppghakmkaaaJe
set_option linter.unusedVariables false
set_option linter.unusedSimpArgs false
namespace Go.Proofs.Ytidgppghakmkaaa
open scoped Classical
open Go.RowKit Go.Shelf Hp Go.Sort
attribute [local simp] wide_fn

theorem Ch_grow (w : World) (n : Nat) (os : Array Obj) : Ch (fun _ => False) w (grow (w.drewN n) os) :=
  ⟨by simp [grow, World.drewN], fun k hk _ => by simp [grow, World.drewN, Array.getElem?_append_left hk], rfl, rfl⟩
theorem Try.infoCl : (Try.prog.info? 43).map (fun i => (i.zero, i.size, i.bytes)) = some (some (.agg #[.bool false, .int .i64 0]), 2, 16) := by kernel_rfl
theorem made_cl (n : Nat) : madeCells (#[.bool false, .int .i64 0] : Array Value) (n * 2) = rowK (fun _ => ⟨false, 0⟩) n := by
  apply Array.ext_getElem?
  intro i
  rw [rowK_all]
  by_cases h : i < n * 2
  · rw [if_pos h]
    rcases (show i % 2 = 0 ∨ i % 2 = 1 by omega) with e | e <;> simp [madeCells, h, rv, e]
  · rw [if_neg h]
    simp [madeCells, h]
theorem run_make_cl (n : Nat) (hn : n ≤ 1000000) (W : World) : (Instr.makeSlice 31 (.int .i64 (n : Int)) (.int .i64 (n : Int))).run Try.prog W = .ok (.slice (some ⟨W.heap.size, 0, none⟩) n n) (W.alloc (.cells (rowK (fun _ => ⟨false, 0⟩) n) 43)) := by
  obtain ⟨i, hi, hzz⟩ := Option.map_eq_some_iff.1 Try.infoCl
  simp only [Prod.mk.injEq] at hzz
  obtain ⟨hz, hs, hb⟩ := hzz
  have hmk := run_make (P := Try.prog) W 31 43 i _ Try.underlying31 hi hz .i64 .i64 n n (by omega) (Int.le_refl _) (by rw [hb]; omega) (by omega)
  rw [hs] at hmk
  simp only [Int.toNat_natCast] at hmk
  rw [show (Value.agg #[.bool false, .int .i64 0]).cells = #[.bool false, .int .i64 0] from rfl, made_cl] at hmk
  exact hmk

set_option maxRecDepth 100000 in
set_option maxHeartbeats 4000000 in
theorem DMake_bad (w : World) (p : Value) (kind tag n : Int) (fv : Value) (h : ¬ ((0 ≤ kind ∧ kind ≤ 4) ∧ (0 ≤ tag ∧ tag ≤ 65535) ∧ (0 ≤ n ∧ n ≤ 1000000))) :
    Calls Try.prog 8 #[p, .int .i64 kind, .int .i64 tag, .int .i64 n, fv] w fun e w' => e = .returned (.tuple #[.int .i64 0, .int .i64 11]) ∧ w' = w := by
  by_cases h1 : kind < 0
  · clear h
    go_enter Try.func8, Try.ntmps8
    go_wp2
    refine bodyPost_ret (v := .tuple #[.int .i64 0, .int .i64 11]) (by simp [results, Try.results8, go_sem]) rfl ?_
    exact ⟨rfl, rfl⟩
  by_cases h2 : 4 < kind
  · clear h
    go_enter Try.func8, Try.ntmps8
    go_wp2
    refine bodyPost_ret (v := .tuple #[.int .i64 0, .int .i64 11]) (by simp [results, Try.results8, go_sem]) rfl ?_
    exact ⟨rfl, rfl⟩
  by_cases h3 : tag < 0
  · clear h
    go_enter Try.func8, Try.ntmps8
    go_wp2
    refine bodyPost_ret (v := .tuple #[.int .i64 0, .int .i64 11]) (by simp [results, Try.results8, go_sem]) rfl ?_
    exact ⟨rfl, rfl⟩
  by_cases h4 : 65535 < tag
  · clear h
    go_enter Try.func8, Try.ntmps8
    go_wp2
    refine bodyPost_ret (v := .tuple #[.int .i64 0, .int .i64 11]) (by simp [results, Try.results8, go_sem]) rfl ?_
    exact ⟨rfl, rfl⟩
  by_cases h5 : n < 0
  · clear h
    go_enter Try.func8, Try.ntmps8
    go_wp2
    refine bodyPost_ret (v := .tuple #[.int .i64 0, .int .i64 11]) (by simp [results, Try.results8, go_sem]) rfl ?_
    exact ⟨rfl, rfl⟩
  have h6 : 1000000 < n := by omega
  clear h
  go_enter Try.func8, Try.ntmps8
  go_wp2
  refine bodyPost_ret (v := .tuple #[.int .i64 0, .int .i64 11]) (by simp [results, Try.results8, go_sem]) rfl ?_
  exact ⟨rfl, rfl⟩

def DMakePost (w : World) (rb N cb : Nat) (O : Nat → Prop) (T1 : List Th) (r1 : Nat → Cl) (kind tag : Int) (n : Nat) (e : Ending) (w' : World) : Prop :=
  ((used T1 + n + 1 ≤ N ∧ e = .returned (.tuple #[.int .i64 (used T1 : Nat), .int .i64 0]) ∧ ∃ bs' lv', DM w' rb N (T1 ++ [newTh kind tag n]) bs' lv' ∧ ∀ k, DOwn rb (T1 ++ [newTh kind tag n]) bs' lv' k → O k ∨ w.heap.size ≤ k) ∨
   (¬ (used T1 + n + 1 ≤ N) ∧ e = .returned (.tuple #[.int .i64 0, .int .i64 18]) ∧ ∃ bs' lv', DM w' rb N T1 bs' lv' ∧ ∀ k, DOwn rb T1 bs' lv' k → O k ∨ w.heap.size ≤ k)) ∧ RtsM w' cb r1 ∧ Ch (fun k => O k ∨ k = cb) w w'

set_option maxRecDepth 100000 in
set_option maxHeartbeats 16000000 in
theorem DMake_any (w : World) (rb N : Nat) (T : List Th) (bs : Nat → Nat) (lv : Value) (D : DM w rb N T bs lv) (hwf : WF T) (pb pc cb : Nat) (r : Nat → Cl) (hp : PlM w pb cb) (hr : RtsM w cb r) (hrv : RV T r) (hcb : ¬ DOwn rb T bs lv cb) (hpo : ¬ DOwn rb T bs lv pb) (hcp : cb ≠ pb)
    (kind tag : Int) (n : Nat) (hk : 0 ≤ kind ∧ kind ≤ 4) (ht : 0 ≤ tag ∧ tag ≤ 65535) (hn : n ≤ 1000000) :
    Calls Try.prog 8 #[.pointer (some ⟨rb, 0, none⟩), .int .i64 kind, .int .i64 tag, .int .i64 (n : Nat), .slice (some ⟨pb, 0, none⟩) 6 pc] w (DMakePost w rb N cb (DOwn rb T bs lv) (mkT T r N n) (mkR T r N n) kind tag n) := by
  have hmx := D.max
  have hle := D.le
  have k1 : ¬ kind < 0 := by omega
  have k2 : ¬ 4 < kind := by omega
  have k3 : ¬ tag < 0 := by omega
  have k4 : ¬ 65535 < tag := by omega
  have k5 : ¬ (n : Int) < 0 := by omega
  have k6 : ¬ 1000000 < (n : Int) := by omega
  have hmix : Try.prog.follows .mixedOrders = true := by kernel_rfl
  have hU : ∀ q os, Calls Try.prog 18 #[.pointer (some ⟨rb, 0, none⟩)] (grow (w.drewN q) os) fun e w' => e = .returned (.int .i64 (used T : Nat)) ∧ ∃ q' os', w' = grow ((grow (w.drewN q) os).drewN q') os' := fun q os => DUsed_any _ rb N T bs lv (D.quiet (Ch_grow w q os))
  have hN0 : w.cell? ⟨rb, 0, none⟩ = some (.int .i64 (N : Nat)) := by simp [World.cell?, D.hd]
  have hN : ∀ q os, (grow (w.drewN q) os).cell? ⟨rb, 0, none⟩ = some (.int .i64 (N : Nat)) := fun q os => cell_grown (D.lt (.inl rfl)) hN0 q os
  have hw1 : IntKind.i64.wrap ((used T : Int) + (n : Int)) = (used T : Int) + (n : Int) := IntWalk.i64_in _ (by omega)
  have hw2 : IntKind.i64.wrap ((used T : Int) + (n : Int) + 1) = (used T : Int) + (n : Int) + 1 := IntWalk.i64_in _ (by omega)
  by_cases hfit : used T + n + 1 ≤ N
  · have hfI : ¬ ((N : Int) < (used T : Int) + (n : Int) + 1) := by omega
    have e1 : mkT T r N n = T := by simp [mkT, hfit]
    have e2 : mkR T r N n = r := by simp [mkR, hfit]
    rw [e1, e2]
    have D0 := hid D
    have hr0 := hid hr
    have hcl : cb < w.heap.size := (Array.getElem?_eq_some_iff.1 hr).1
    have hfT := hfit
    clear D hr hp hrv hwf hpo hcp e1 e2
    go_enter Try.func8, Try.ntmps8
    go_wp2
    go_quiet_grown (first | (go_at_call 18; refine Calls.grown_of (hU _ _)))
    have hcg := Ch_grow w nq osq
    have D2 := hid (D0.out.quiet hcg)
    have hr2 : Hid (RtsM (grow (w.drewN nq) osq) cb r) := (hcg.same cb hcl (fun h => h)).trans hr0.out
    have hc2 := hid (hcg.mono (O1 := fun k => DOwn rb T bs lv k ∨ k = cb) (fun _ h => h.elim))
    have hown : Hid (∀ k, DOwn rb T bs lv k → DOwn rb T bs lv k ∨ w.heap.size ≤ k) := fun k hk => .inl hk
    clear hU hN hcg D0 hr0
    generalize grow (w.drewN nq) osq = w2 at D2 hr2 hc2 ⊢
    have hle2 := D2.out.le
    have hU2 : ∀ q os, Calls Try.prog 18 #[.pointer (some ⟨rb, 0, none⟩)] (grow (w2.drewN q) os) fun e w' => e = .returned (.int .i64 (used T : Nat)) ∧ ∃ q' os', w' = grow ((grow (w2.drewN q) os).drewN q') os' := fun q os => DUsed_any _ rb N T bs lv (D2.out.quiet (Ch_grow w2 q os))
    have hN2 : ∀ q os, (grow (w2.drewN q) os).cell? ⟨rb, 0, none⟩ = some (.int .i64 (N : Nat)) := fun q os => cell_grown (D2.out.lt (.inl rfl)) (by simp [World.cell?, D2.out.hd]) q os
    have hv1 : IntKind.i64.wrap ((used T : Int) + (n : Int)) = (used T : Int) + (n : Int) := IntWalk.i64_in _ (by omega)
    have hv2 : IntKind.i64.wrap ((used T : Int) + (n : Int) + 1) = (used T : Int) + (n : Int) + 1 := IntWalk.i64_in _ (by omega)
    go_wp2
    go_quiet_grown (first | (go_at_call 18; refine Calls.grown_of (hU2 _ _)))
    have hc3 := Ch_grow w2 nq osq
    have D3 := D2.out.quiet hc3
    have hr3 : RtsM (grow (w2.drewN nq) osq) cb r := (hc3.same cb (Array.getElem?_eq_some_iff.1 hr2.out).1 (fun h => h)).trans hr2.out
    have hc23 : Ch (fun k => DOwn rb T bs lv k ∨ k = cb) w (grow (w2.drewN nq) osq) := hc2.out.trans hc3 (fun _ h => h.elim)
    clear hU2 hN2 hc2 hr2 D2
    generalize grow (w2.drewN nq) osq = w3 at hc3 D3 hr3 hc23 ⊢
    clear hc3
    have HU3 := DUsed_any w3 rb N T bs lv D3
    have HK := hid (And.intro D3 (And.intro hr3 hc23))
    clear D3 hr3 hc23
    go_wp2_with (go_at_call 18; refine HU3.mono ?_; clear HU3; rintro e w4' ⟨rfl, q4, os4, hw4⟩; have hc4 := Ch_grow w3 q4 os4; rw [← hw4] at hc4; have D4 := HK.out.1.quiet hc4; have HK4 := hid (And.intro D4 (And.intro (show RtsM w4' cb r from (hc4.same cb (Array.getElem?_eq_some_iff.1 HK.out.2.1).1 (fun h => h)).trans HK.out.2.1) (HK.out.2.2.trans hc4 (fun _ h => h.elim)))); clear HK hw4 hc4)
    obtain ⟨sa, scap, esv, hsa, -⟩ := row_slice D4.row
    have hlv : w4'.cell? ⟨rb, 1, none⟩ = some (.slice sa T.length scap) := by simp [World.cell?, D4.hd, esv]
    have hfr : ∀ q, w4'.frozen? ⟨rb, q, none⟩ = false := fun q => by simp [World.frozen?, D4.hd]
    have hrbl : rb < w4'.heap.size := (Array.getElem?_eq_some_iff.1 D4.hd).1
    have a1 : ∀ o, (w4'.alloc o).drew.cell? ⟨rb, 1, none⟩ = some (.slice sa T.length scap) := fun o => Lib.cell?_alloc_some (W := w4') o hlv
    have a2 : ∀ o o', ((w4'.alloc o).alloc o').drew.cell? ⟨rb, 1, none⟩ = some (.slice sa T.length scap) := fun o o' => Lib.cell?_alloc_some (W := w4'.alloc o) o' (Lib.cell?_alloc_some (W := w4') o hlv)
    have hmk := fun W => run_make_cl n hn W
    have hlen := len_used T
    obtain ⟨W5, hW5⟩ : ∃ W5, (w4'.alloc (.cells (rowK (fun _ => ⟨false, 0⟩) n) 43)).alloc (.cells #[.int .i64 (used T : Nat), .int .i64 kind, .int .i64 tag, .slice (some ⟨w4'.heap.size, 0, none⟩) n n] 46) = W5 := ⟨_, rfl⟩
    have hc5 : Ch (fun _ => False) w4' W5 := by rw [← hW5]; exact ((Ch.refl _ w4').al _).al _
    have hz5 : W5.heap.size = w4'.heap.size + 2 := by rw [← hW5]; simp
    have hb5 : W5.heap[w4'.heap.size]? = some (.cells (rowK (fun _ => ⟨false, 0⟩) n) 43 (0, 0)) := by rw [← hW5]; exact blk_alloc (World.alloc_heap_new w4' _)
    have hr5 : W5.drew.ownsRow 0 46 4 (.slice sa T.length scap) T.length (xsT (dOf T bs) T.length) := by
      have := D4.row
      rw [esv] at this
      exact ownsRow_keep this (fun k hk => hc5.same k (ownsRow_lt this hk) (fun h => h))
    have hAc : ∀ j u, ([.int .i64 (used T : Nat), .int .i64 kind, .int .i64 tag, .slice (some ⟨w4'.heap.size, 0, none⟩) n n] : List Value)[j]? = some u → W5.drew.cell? ((⟨w4'.heap.size + 1, 0, none⟩ : Addr).add j) = some u := by
      have := new_many (w4'.alloc (.cells (rowK (fun _ => ⟨false, 0⟩) n) 43)) #[.int .i64 (used T : Nat), .int .i64 kind, .int .i64 tag, .slice (some ⟨w4'.heap.size, 0, none⟩) n n] 46 _ rfl
      rw [hW5, World.size_alloc] at this
      exact this
    have hd5 : W5.heap[rb]? = some (.cells #[.int .i64 N, lv] 30 (0, 0)) := (hc5.same rb hrbl (fun h => h)).trans D4.hd
    have hLrb : (Value.slice sa T.length scap).ownBlock ≠ some rb := by rw [← esv]; exact D4.lrb
    have hnx : ∀ v' w9, w9.ownsRow 0 46 4 v' (T.length + 1) (xsT (dOf T bs) T.length ++ [.int .i64 (used T : Nat), .int .i64 kind, .int .i64 tag, .slice (some ⟨w4'.heap.size, 0, none⟩) n n]) → W5.drew.grownBy w9 (Value.slice sa T.length scap).ownBlock → (v'.ownBlock = (Value.slice sa T.length scap).ownBlock ∨ v'.ownBlock = some W5.drew.heap.size) → w9.heap[rb]? = some (.cells #[.int .i64 N, lv] 30 (0, 0)) ∧ DMakePost w rb N cb (DOwn rb T bs lv) T r kind tag n (.returned (.tuple #[.int .i64 (used T : Nat), .int .i64 0])) (w9.setCell ⟨rb, 1, none⟩ v') := by
      intro v' w9 hrow9 hgrow9 hblk9
      obtain ⟨D4', hr4, hc4⟩ := HK4.out
      have hc9 : Ch (fun k => (Value.slice sa T.length scap).ownBlock = some k) W5 w9 := app_ch (W := W5) (Wa := W5.drew) ⟨Nat.le_refl _, fun _ _ _ => rfl, rfl, rfl⟩ hgrow9
      have h9rb := (hc9.same rb (by omega) hLrb).trans hd5
      refine ⟨h9rb, .inl ⟨hfT, rfl, fun q => if q < T.length then bs q else w4'.heap.size, v', ?_, ?_⟩, ?_, ?_⟩
      · have hlt4 : ∀ k, DOwn rb T bs lv k → k < w4'.heap.size := fun k hk => D4'.lt hk
        have hvn : ∀ k, v'.ownBlock = some k → lv.ownBlock = some k ∨ w4'.heap.size + 2 ≤ k := fun k hk => by
          rcases hblk9 with e9 | e9
          · left; rw [esv]; exact e9.symm.trans hk
          · right; rw [e9] at hk; have := Option.some.inj hk; show _ ≤ k; rw [← this]; show _ ≤ W5.heap.size; omega
        have hsame : ∀ k, k < W5.heap.size → lv.ownBlock ≠ some k → k ≠ rb → (w9.setCell ⟨rb, 1, none⟩ v').heap[k]? = W5.heap[k]? := fun k h1 h2 h3 => by
          rw [Below.heap_setCell _ _ _ _ h3]
          exact hc9.same k h1 (by rw [← esv]; exact h2)
        have hthn : ∀ q, q < T.length → thOf (T ++ [newTh kind tag n]) q = thOf T q := fun q hq => by unfold thOf; rw [List.getElem?_append_left hq]
        have hlast : (T ++ [newTh kind tag n])[T.length]? = some (newTh kind tag n) := by simp
        refine ⟨?_, ?_, fun q t hq => ?_, fun a b ha hb e => ?_, fun a ha => ?_, fun a ha e => ?_, fun e => ?_, ?_, hmx⟩
        · rw [blk_set h9rb]
          rfl
        · rw [List.length_append, show [newTh kind tag n].length = 1 from rfl, xsT_snoc]
          have e1 : xsT (dOf (T ++ [newTh kind tag n]) (fun q => if q < T.length then bs q else w4'.heap.size)) T.length = xsT (dOf T bs) T.length := xsT_ext (fun q hq => by
            unfold dOf
            rw [hthn q hq, ad_snoc _ (by omega)]
            dsimp only
            rw [if_pos hq])
          have e2 : dOf (T ++ [newTh kind tag n]) (fun q => if q < T.length then bs q else w4'.heap.size) T.length = ⟨(used T : Nat), kind, tag, w4'.heap.size, n⟩ := by
            unfold dOf
            rw [thOf_at hlast, ad_snoc _ (Nat.le_refl _), ad_all]
            dsimp only
            rw [if_neg (by omega)]
            simp [newTh]
          rw [e1, e2]
          exact ownsRow_keep hrow9 (fun k hk => Below.heap_setCell _ _ _ _ (fun e => by
            have e : k = rb := e
            subst e
            rcases hvn k hk with h | h
            · exact D4'.lrb h
            · omega))
        · by_cases hq2 : q < T.length
          · have hq' : T[q]? = some t := by rwa [List.getElem?_append_left hq2] at hq
            show (w9.setCell ⟨rb, 1, none⟩ v').heap[if q < T.length then bs q else w4'.heap.size]? = _
            have hl4 := hlt4 (bs q) (.inr (.inr ⟨q, hq2, rfl⟩))
            rw [if_pos hq2, hsame _ (by omega) (D4'.nlv q hq2) (D4'.nrb q hq2), hc5.same _ hl4 (fun h => h), D4'.fld q t hq']
            have ec : clOf (T ++ [newTh kind tag n]) q = clOf T q := by funext j; unfold clOf; rw [List.getElem?_append_left hq2]
            rw [ec]
          · have hqe : q = T.length := by
              have := (List.getElem?_eq_some_iff.1 hq).1
              simp at this
              omega
            subst hqe
            obtain rfl := Option.some.inj (hlast.symm.trans hq)
            show (w9.setCell ⟨rb, 1, none⟩ v').heap[if T.length < T.length then bs T.length else w4'.heap.size]? = _
            have hlv : lv.ownBlock ≠ some w4'.heap.size := fun e => by have := hlt4 _ (.inr (.inl e)); omega
            rw [if_neg (by omega), hsame _ (by omega) hlv (by omega), hb5]
            have : rowK (fun _ => ⟨false, 0⟩) n = rowK (clOf (T ++ [newTh kind tag n]) T.length) (newTh kind tag n).l.length := by
              have el : (newTh kind tag n).l.length = n := by simp [newTh]
              rw [el]
              refine rowK_ext (fun j hj => ?_)
              rw [clOf_at hlast]
              simp [newTh, List.getD, hj]
            rw [this]
        · simp only [List.length_append, List.length_singleton] at ha hb
          by_cases h1 : a < T.length
          · by_cases h2 : b < T.length
            · simp only [h1, h2, if_true] at e
              exact D4'.inj a b h1 h2 e
            · simp only [h1, h2, if_true, if_false] at e
              have := hlt4 (bs a) (.inr (.inr ⟨a, h1, rfl⟩))
              omega
          · by_cases h2 : b < T.length
            · simp only [h1, h2, if_true, if_false] at e
              have := hlt4 (bs b) (.inr (.inr ⟨b, h2, rfl⟩))
              omega
            · omega
        · show (if a < T.length then bs a else w4'.heap.size) ≠ rb
          by_cases h1 : a < T.length
          · rw [if_pos h1]; exact D4'.nrb a h1
          · rw [if_neg h1]; omega
        · have e : v'.ownBlock = some (if a < T.length then bs a else w4'.heap.size) := e
          by_cases h1 : a < T.length
          · rw [if_pos h1] at e
            rcases hvn _ e with h | h
            · exact D4'.nlv a h1 h
            · have := hlt4 (bs a) (.inr (.inr ⟨a, h1, rfl⟩)); omega
          · rw [if_neg h1] at e
            rcases hvn _ e with h | h
            · have := hlt4 _ (.inr (.inl h)); omega
            · omega
        · rcases hvn _ e with h | h
          · exact D4'.lrb h
          · omega
        · rw [used_snoc, newTh_size]; omega
      · intro k hk
        have hz4 := hc4.size
        rcases hk with hk | hk | ⟨q, hq, hk⟩
        · exact .inl (.inl hk)
        · rcases hblk9 with e9 | e9
          · exact hown.out k (.inr (.inl (by rw [esv]; exact e9.symm.trans hk)))
          · right; rw [e9] at hk; have := Option.some.inj hk; rw [← this]; show _ ≤ W5.heap.size; omega
        · have hk : (if q < T.length then bs q else w4'.heap.size) = k := hk
          by_cases h1 : q < T.length
          · rw [if_pos h1] at hk
            exact hown.out k (.inr (.inr ⟨q, h1, hk⟩))
          · rw [if_neg h1] at hk
            right; omega
      · have hz4 := hc4.size
        have hcbo : ¬ DOwn rb T bs lv cb := fun h => by
          rcases hown.out cb h with h2 | h2
          · exact hcb h2
          · omega
        show (w9.setCell ⟨rb, 1, none⟩ v').heap[cb]? = _
        rw [Below.heap_setCell _ _ _ _ (fun e => hcbo (.inl e)), hc9.same cb (by omega) (fun e => hcbo (.inr (.inl (by rw [esv]; exact e)))), hc5.same cb (by omega) (fun h => h)]
        exact hr4
      · have hz4 := hc4.size
        refine ((hc4.trans hc5 (fun _ h => h.elim)).trans hc9 (fun k hk => ?_)).set (a := ⟨rb, 1, none⟩) (.inl (.inl rfl)) _
        rcases hown.out k (.inr (.inl (by rw [esv]; exact hk))) with h | h
        · exact .inl (.inl h)
        · exact .inr h
    replace hnx := hid hnx
    have a3 : W5.drew.cell? ⟨rb, 1, none⟩ = some (.slice sa T.length scap) := by rw [← esv]; show W5.cell? _ = _; unfold World.cell?; rw [hd5]; rfl
    clear hc5 hb5 hd5 HK4 hown
    subst esv
    clear D4
    go_region_law (refine step_append rfl (.tmp 64) (.tmp 71) 28 rfl 46 (.agg #[.int .i64 0, .int .i64 0, .int .i64 0, .slice none 0 0]) 4 48 Try.underlying28 Try.infoTh rfl (by decide) (.slice sa T.length scap) T.length (xsT (dOf T bs) T.length) (by simp [Act.eval]) (by exact hr5) ⟨w4'.heap.size + 1, 0, none⟩ 1 1 [.int .i64 (used T : Nat), .int .i64 kind, .int .i64 tag, .slice (some ⟨w4'.heap.size, 0, none⟩) n n] (by simp [Act.eval]) rfl (by exact hAc) (by simp [Value.oneCell']) (by unfold maxLen; omega) (by omega) ?_; intro v' w9 hrow9 hgrow9 hblk9; obtain ⟨hd9, hP9⟩ := hnx.out v' w9 hrow9 hgrow9 hblk9; obtain ⟨g9, cap9, rfl⟩ := ownsRow_succ' hrow9; have s9 : w9.cell? ⟨rb, 1, none⟩ = some _ := (by unfold World.cell?; rw [hd9]; rfl); have sf9 : ∀ q, w9.frozen? ⟨rb, q, none⟩ = false := (fun q => by unfold World.frozen?; rw [hd9]; rfl); replace hP9 := hid hP9; clear hd9)
    all_goals
      generalize w9.setCell ⟨rb, 1, none⟩ _ = V9 at hP9 ⊢
      go_wp2
      refine bodyPost_ret (v := .tuple #[.int .i64 (used T : Nat), .int .i64 0]) (by simp [results, Try.results8, go_sem]) rfl ?_
      exact hP9.out
  · have hfI : (N : Int) < (used T : Int) + (n : Int) + 1 := by omega
    have e1 : mkT T r N n = coll (mR T r) T := by simp [mkT, hfit]
    have e2 : mkR T r N n = fun i => newC (mR T r) T (r i) := by simp [mkR, hfit]
    rw [e1, e2]
    have hcl : cb < w.heap.size := (Array.getElem?_eq_some_iff.1 hr).1
    have hpl : pb < w.heap.size := block_lt_of_cell (hp 0 (by omega))
    have HC0 : ∀ wa, Ch (fun _ => False) w wa → Calls Try.prog 14 #[.pointer (some ⟨rb, 0, none⟩), .slice (some ⟨pb, 0, none⟩) 6 pc] wa fun e w' => e = .returned (.int .i64 (used (coll (mR T r) T) : Nat)) ∧
      (∃ bs' lv', DM w' rb N (coll (mR T r) T) bs' lv' ∧ ∀ k, DOwn rb (coll (mR T r) T) bs' lv' k → DOwn rb T bs lv k ∨ wa.heap.size ≤ k) ∧ RtsM w' cb (fun i => newC (mR T r) T (r i)) ∧ Ch (fun k => DOwn rb T bs lv k ∨ k = cb) wa w' := fun wa hca =>
      DCollect_any wa rb N T bs lv (D.quiet hca) hwf pb pc cb r (hp.keep (hca.same pb hpl (fun h => h))) ((hca.same cb hcl (fun h => h)).trans hr) hrv hcb hpo hcp
    generalize coll (mR T r) T = T1 at HC0 ⊢
    generalize (fun i => newC (mR T r) T (r i)) = r1 at HC0 ⊢
    replace HC0 := hid HC0
    clear D hr hp hrv hwf hpo hcp e1 e2
    go_enter Try.func8, Try.ntmps8
    go_wp2
    go_quiet_grown (first | (go_at_call 18; refine Calls.grown_of (hU _ _)))
    have hcg := Ch_grow w nq osq
    have HC := HC0.out _ hcg
    clear hU hN HC0
    generalize grow (w.drewN nq) osq = wa at hcg HC ⊢
    go_wp2_with (go_at_call 14; refine HC.mono ?_; clear HC; rintro e w2 ⟨rfl, ⟨bs1, lv1, D2, hown⟩, hr2, hc2⟩; have hcg' := hid hcg; clear hcg; replace D2 := hid D2; replace hr2 := hid hr2; replace hc2 := hid hc2; replace hown := hid hown)
    replace hc2 : Hid (Ch (fun k => DOwn rb T bs lv k ∨ k = cb) w w2) := (hcg'.out.mono (fun _ h => h.elim)).trans hc2.out (fun _ h => .inl h)
    replace hown : Hid (∀ k, DOwn rb T1 bs1 lv1 k → DOwn rb T bs lv k ∨ w.heap.size ≤ k) := fun k hk => (hown.out k hk).imp id (fun h => Nat.le_trans hcg'.out.size h)
    clear hcg'
    have hle2 := D2.out.le
    have hU2 : ∀ q os, Calls Try.prog 18 #[.pointer (some ⟨rb, 0, none⟩)] (grow (w2.drewN q) os) fun e w' => e = .returned (.int .i64 (used T1 : Nat)) ∧ ∃ q' os', w' = grow ((grow (w2.drewN q) os).drewN q') os' := fun q os => DUsed_any _ rb N T1 bs1 lv1 (D2.out.quiet (Ch_grow w2 q os))
    have hN2 : ∀ q os, (grow (w2.drewN q) os).cell? ⟨rb, 0, none⟩ = some (.int .i64 (N : Nat)) := fun q os => cell_grown (D2.out.lt (.inl rfl)) (by simp [World.cell?, D2.out.hd]) q os
    have hv1 : IntKind.i64.wrap ((used T1 : Int) + (n : Int)) = (used T1 : Int) + (n : Int) := IntWalk.i64_in _ (by omega)
    have hv2 : IntKind.i64.wrap ((used T1 : Int) + (n : Int) + 1) = (used T1 : Int) + (n : Int) + 1 := IntWalk.i64_in _ (by omega)
    by_cases hfT : used T1 + n + 1 ≤ N
    · have hfI2 : ¬ ((N : Int) < (used T1 : Int) + (n : Int) + 1) := by omega
      go_quiet_grown (first | (go_at_call 18; refine Calls.grown_of (hU2 _ _)))
      have hc3 := Ch_grow w2 nq osq
      have D3 := D2.out.quiet hc3
      have hr3 : RtsM (grow (w2.drewN nq) osq) cb r1 := (hc3.same cb (Array.getElem?_eq_some_iff.1 hr2.out).1 (fun h => h)).trans hr2.out
      have hc23 : Ch (fun k => DOwn rb T bs lv k ∨ k = cb) w (grow (w2.drewN nq) osq) := hc2.out.trans hc3 (fun _ h => h.elim)
      clear hU2 hN2 hc2 hr2 D2
      generalize grow (w2.drewN nq) osq = w3 at hc3 D3 hr3 hc23 ⊢
      clear hc3
      have HU3 := DUsed_any w3 rb N T1 bs1 lv1 D3
      have HK := hid (And.intro D3 (And.intro hr3 hc23))
      clear D3 hr3 hc23
      go_wp2_with (go_at_call 18; refine HU3.mono ?_; clear HU3; rintro e w4' ⟨rfl, q4, os4, hw4⟩; have hc4 := Ch_grow w3 q4 os4; rw [← hw4] at hc4; have D4 := HK.out.1.quiet hc4; have HK4 := hid (And.intro D4 (And.intro (show RtsM w4' cb r1 from (hc4.same cb (Array.getElem?_eq_some_iff.1 HK.out.2.1).1 (fun h => h)).trans HK.out.2.1) (HK.out.2.2.trans hc4 (fun _ h => h.elim)))); clear HK hw4 hc4)
      obtain ⟨sa, scap, esv, hsa, -⟩ := row_slice D4.row
      have hlv : w4'.cell? ⟨rb, 1, none⟩ = some (.slice sa T1.length scap) := by simp [World.cell?, D4.hd, esv]
      have hfr : ∀ q, w4'.frozen? ⟨rb, q, none⟩ = false := fun q => by simp [World.frozen?, D4.hd]
      have hrbl : rb < w4'.heap.size := (Array.getElem?_eq_some_iff.1 D4.hd).1
      have a1 : ∀ o, (w4'.alloc o).drew.cell? ⟨rb, 1, none⟩ = some (.slice sa T1.length scap) := fun o => Lib.cell?_alloc_some (W := w4') o hlv
      have a2 : ∀ o o', ((w4'.alloc o).alloc o').drew.cell? ⟨rb, 1, none⟩ = some (.slice sa T1.length scap) := fun o o' => Lib.cell?_alloc_some (W := w4'.alloc o) o' (Lib.cell?_alloc_some (W := w4') o hlv)
      have hmk := fun W => run_make_cl n hn W
      have hlen := len_used T1
      obtain ⟨W5, hW5⟩ : ∃ W5, (w4'.alloc (.cells (rowK (fun _ => ⟨false, 0⟩) n) 43)).alloc (.cells #[.int .i64 (used T1 : Nat), .int .i64 kind, .int .i64 tag, .slice (some ⟨w4'.heap.size, 0, none⟩) n n] 46) = W5 := ⟨_, rfl⟩
      have hc5 : Ch (fun _ => False) w4' W5 := by rw [← hW5]; exact ((Ch.refl _ w4').al _).al _
      have hz5 : W5.heap.size = w4'.heap.size + 2 := by rw [← hW5]; simp
      have hb5 : W5.heap[w4'.heap.size]? = some (.cells (rowK (fun _ => ⟨false, 0⟩) n) 43 (0, 0)) := by rw [← hW5]; exact blk_alloc (World.alloc_heap_new w4' _)
      have hr5 : W5.drew.ownsRow 0 46 4 (.slice sa T1.length scap) T1.length (xsT (dOf T1 bs1) T1.length) := by
        have := D4.row
        rw [esv] at this
        exact ownsRow_keep this (fun k hk => hc5.same k (ownsRow_lt this hk) (fun h => h))
      have hAc : ∀ j u, ([.int .i64 (used T1 : Nat), .int .i64 kind, .int .i64 tag, .slice (some ⟨w4'.heap.size, 0, none⟩) n n] : List Value)[j]? = some u → W5.drew.cell? ((⟨w4'.heap.size + 1, 0, none⟩ : Addr).add j) = some u := by
        have := new_many (w4'.alloc (.cells (rowK (fun _ => ⟨false, 0⟩) n) 43)) #[.int .i64 (used T1 : Nat), .int .i64 kind, .int .i64 tag, .slice (some ⟨w4'.heap.size, 0, none⟩) n n] 46 _ rfl
        rw [hW5, World.size_alloc] at this
        exact this
      have hd5 : W5.heap[rb]? = some (.cells #[.int .i64 N, lv1] 30 (0, 0)) := (hc5.same rb hrbl (fun h => h)).trans D4.hd
      have hLrb : (Value.slice sa T1.length scap).ownBlock ≠ some rb := by rw [← esv]; exact D4.lrb
      have hnx : ∀ v' w9, w9.ownsRow 0 46 4 v' (T1.length + 1) (xsT (dOf T1 bs1) T1.length ++ [.int .i64 (used T1 : Nat), .int .i64 kind, .int .i64 tag, .slice (some ⟨w4'.heap.size, 0, none⟩) n n]) → W5.drew.grownBy w9 (Value.slice sa T1.length scap).ownBlock → (v'.ownBlock = (Value.slice sa T1.length scap).ownBlock ∨ v'.ownBlock = some W5.drew.heap.size) → w9.heap[rb]? = some (.cells #[.int .i64 N, lv1] 30 (0, 0)) ∧ DMakePost w rb N cb (DOwn rb T bs lv) T1 r1 kind tag n (.returned (.tuple #[.int .i64 (used T1 : Nat), .int .i64 0])) (w9.setCell ⟨rb, 1, none⟩ v') := by
        intro v' w9 hrow9 hgrow9 hblk9
        obtain ⟨D4', hr4, hc4⟩ := HK4.out
        have hc9 : Ch (fun k => (Value.slice sa T1.length scap).ownBlock = some k) W5 w9 := app_ch (W := W5) (Wa := W5.drew) ⟨Nat.le_refl _, fun _ _ _ => rfl, rfl, rfl⟩ hgrow9
        have h9rb := (hc9.same rb (by omega) hLrb).trans hd5
        refine ⟨h9rb, .inl ⟨hfT, rfl, fun q => if q < T1.length then bs1 q else w4'.heap.size, v', ?_, ?_⟩, ?_, ?_⟩
        · have hlt4 : ∀ k, DOwn rb T1 bs1 lv1 k → k < w4'.heap.size := fun k hk => D4'.lt hk
          have hvn : ∀ k, v'.ownBlock = some k → lv1.ownBlock = some k ∨ w4'.heap.size + 2 ≤ k := fun k hk => by
            rcases hblk9 with e9 | e9
            · left; rw [esv]; exact e9.symm.trans hk
            · right; rw [e9] at hk; have := Option.some.inj hk; show _ ≤ k; rw [← this]; show _ ≤ W5.heap.size; omega
          have hsame : ∀ k, k < W5.heap.size → lv1.ownBlock ≠ some k → k ≠ rb → (w9.setCell ⟨rb, 1, none⟩ v').heap[k]? = W5.heap[k]? := fun k h1 h2 h3 => by
            rw [Below.heap_setCell _ _ _ _ h3]
            exact hc9.same k h1 (by rw [← esv]; exact h2)
          have hthn : ∀ q, q < T1.length → thOf (T1 ++ [newTh kind tag n]) q = thOf T1 q := fun q hq => by unfold thOf; rw [List.getElem?_append_left hq]
          have hlast : (T1 ++ [newTh kind tag n])[T1.length]? = some (newTh kind tag n) := by simp
          refine ⟨?_, ?_, fun q t hq => ?_, fun a b ha hb e => ?_, fun a ha => ?_, fun a ha e => ?_, fun e => ?_, ?_, hmx⟩
          · rw [blk_set h9rb]
            rfl
          · rw [List.length_append, show [newTh kind tag n].length = 1 from rfl, xsT_snoc]
            have e1 : xsT (dOf (T1 ++ [newTh kind tag n]) (fun q => if q < T1.length then bs1 q else w4'.heap.size)) T1.length = xsT (dOf T1 bs1) T1.length := xsT_ext (fun q hq => by
              unfold dOf
              rw [hthn q hq, ad_snoc _ (by omega)]
              dsimp only
              rw [if_pos hq])
            have e2 : dOf (T1 ++ [newTh kind tag n]) (fun q => if q < T1.length then bs1 q else w4'.heap.size) T1.length = ⟨(used T1 : Nat), kind, tag, w4'.heap.size, n⟩ := by
              unfold dOf
              rw [thOf_at hlast, ad_snoc _ (Nat.le_refl _), ad_all]
              dsimp only
              rw [if_neg (by omega)]
              simp [newTh]
            rw [e1, e2]
            exact ownsRow_keep hrow9 (fun k hk => Below.heap_setCell _ _ _ _ (fun e => by
              have e : k = rb := e
              subst e
              rcases hvn k hk with h | h
              · exact D4'.lrb h
              · omega))
          · by_cases hq2 : q < T1.length
            · have hq' : T1[q]? = some t := by rwa [List.getElem?_append_left hq2] at hq
              show (w9.setCell ⟨rb, 1, none⟩ v').heap[if q < T1.length then bs1 q else w4'.heap.size]? = _
              have hl4 := hlt4 (bs1 q) (.inr (.inr ⟨q, hq2, rfl⟩))
              rw [if_pos hq2, hsame _ (by omega) (D4'.nlv q hq2) (D4'.nrb q hq2), hc5.same _ hl4 (fun h => h), D4'.fld q t hq']
              have ec : clOf (T1 ++ [newTh kind tag n]) q = clOf T1 q := by funext j; unfold clOf; rw [List.getElem?_append_left hq2]
              rw [ec]
            · have hqe : q = T1.length := by
                have := (List.getElem?_eq_some_iff.1 hq).1
                simp at this
                omega
              subst hqe
              obtain rfl := Option.some.inj (hlast.symm.trans hq)
              show (w9.setCell ⟨rb, 1, none⟩ v').heap[if T1.length < T1.length then bs1 T1.length else w4'.heap.size]? = _
              have hlv1 : lv1.ownBlock ≠ some w4'.heap.size := fun e => by have := hlt4 _ (.inr (.inl e)); omega
              rw [if_neg (by omega), hsame _ (by omega) hlv1 (by omega), hb5]
              have : rowK (fun _ => ⟨false, 0⟩) n = rowK (clOf (T1 ++ [newTh kind tag n]) T1.length) (newTh kind tag n).l.length := by
                have el : (newTh kind tag n).l.length = n := by simp [newTh]
                rw [el]
                refine rowK_ext (fun j hj => ?_)
                rw [clOf_at hlast]
                simp [newTh, List.getD, hj]
              rw [this]
          · simp only [List.length_append, List.length_singleton] at ha hb
            by_cases h1 : a < T1.length
            · by_cases h2 : b < T1.length
              · simp only [h1, h2, if_true] at e
                exact D4'.inj a b h1 h2 e
              · simp only [h1, h2, if_true, if_false] at e
                have := hlt4 (bs1 a) (.inr (.inr ⟨a, h1, rfl⟩))
                omega
            · by_cases h2 : b < T1.length
              · simp only [h1, h2, if_true, if_false] at e
                have := hlt4 (bs1 b) (.inr (.inr ⟨b, h2, rfl⟩))
                omega
              · omega
          · show (if a < T1.length then bs1 a else w4'.heap.size) ≠ rb
            by_cases h1 : a < T1.length
            · rw [if_pos h1]; exact D4'.nrb a h1
            · rw [if_neg h1]; omega
          · have e : v'.ownBlock = some (if a < T1.length then bs1 a else w4'.heap.size) := e
            by_cases h1 : a < T1.length
            · rw [if_pos h1] at e
              rcases hvn _ e with h | h
              · exact D4'.nlv a h1 h
              · have := hlt4 (bs1 a) (.inr (.inr ⟨a, h1, rfl⟩)); omega
            · rw [if_neg h1] at e
              rcases hvn _ e with h | h
              · have := hlt4 _ (.inr (.inl h)); omega
              · omega
          · rcases hvn _ e with h | h
            · exact D4'.lrb h
            · omega
          · rw [used_snoc, newTh_size]; omega
        · intro k hk
          have hz4 := hc4.size
          rcases hk with hk | hk | ⟨q, hq, hk⟩
          · exact .inl (.inl hk)
          · rcases hblk9 with e9 | e9
            · exact hown.out k (.inr (.inl (by rw [esv]; exact e9.symm.trans hk)))
            · right; rw [e9] at hk; have := Option.some.inj hk; rw [← this]; show _ ≤ W5.heap.size; omega
          · have hk : (if q < T1.length then bs1 q else w4'.heap.size) = k := hk
            by_cases h1 : q < T1.length
            · rw [if_pos h1] at hk
              exact hown.out k (.inr (.inr ⟨q, h1, hk⟩))
            · rw [if_neg h1] at hk
              right; omega
        · have hz4 := hc4.size
          have hcbo : ¬ DOwn rb T1 bs1 lv1 cb := fun h => by
            rcases hown.out cb h with h2 | h2
            · exact hcb h2
            · omega
          show (w9.setCell ⟨rb, 1, none⟩ v').heap[cb]? = _
          rw [Below.heap_setCell _ _ _ _ (fun e => hcbo (.inl e)), hc9.same cb (by omega) (fun e => hcbo (.inr (.inl (by rw [esv]; exact e)))), hc5.same cb (by omega) (fun h => h)]
          exact hr4
        · have hz4 := hc4.size
          refine ((hc4.trans hc5 (fun _ h => h.elim)).trans hc9 (fun k hk => ?_)).set (a := ⟨rb, 1, none⟩) (.inl (.inl rfl)) _
          rcases hown.out k (.inr (.inl (by rw [esv]; exact hk))) with h | h
          · exact .inl (.inl h)
          · exact .inr h
      replace hnx := hid hnx
      have a3 : W5.drew.cell? ⟨rb, 1, none⟩ = some (.slice sa T1.length scap) := by rw [← esv]; show W5.cell? _ = _; unfold World.cell?; rw [hd5]; rfl
      clear hc5 hb5 hd5 HK4 hown
      subst esv
      clear D4
      go_region_law (refine step_append rfl (.tmp 64) (.tmp 71) 28 rfl 46 (.agg #[.int .i64 0, .int .i64 0, .int .i64 0, .slice none 0 0]) 4 48 Try.underlying28 Try.infoTh rfl (by decide) (.slice sa T1.length scap) T1.length (xsT (dOf T1 bs1) T1.length) (by simp [Act.eval]) (by exact hr5) ⟨w4'.heap.size + 1, 0, none⟩ 1 1 [.int .i64 (used T1 : Nat), .int .i64 kind, .int .i64 tag, .slice (some ⟨w4'.heap.size, 0, none⟩) n n] (by simp [Act.eval]) rfl (by exact hAc) (by simp [Value.oneCell']) (by unfold maxLen; omega) (by omega) ?_; intro v' w9 hrow9 hgrow9 hblk9; obtain ⟨hd9, hP9⟩ := hnx.out v' w9 hrow9 hgrow9 hblk9; obtain ⟨g9, cap9, rfl⟩ := ownsRow_succ' hrow9; have s9 : w9.cell? ⟨rb, 1, none⟩ = some _ := (by unfold World.cell?; rw [hd9]; rfl); have sf9 : ∀ q, w9.frozen? ⟨rb, q, none⟩ = false := (fun q => by unfold World.frozen?; rw [hd9]; rfl); replace hP9 := hid hP9; clear hd9)
      all_goals
        generalize w9.setCell ⟨rb, 1, none⟩ _ = V9 at hP9 ⊢
        go_wp2
        refine bodyPost_ret (v := .tuple #[.int .i64 (used T1 : Nat), .int .i64 0]) (by simp [results, Try.results8, go_sem]) rfl ?_
        exact hP9.out
    · have hfI2 : (N : Int) < (used T1 : Int) + (n : Int) + 1 := by omega
      go_quiet_grown (first | (go_at_call 18; refine Calls.grown_of (hU2 _ _)))
      have hc3 := Ch_grow w2 nq osq
      have FIN : DMakePost w rb N cb (DOwn rb T bs lv) T1 r1 kind tag n (.returned (.tuple #[.int .i64 0, .int .i64 18])) (grow (w2.drewN nq) osq) := ⟨.inr ⟨hfT, rfl, bs1, lv1, D2.out.quiet hc3, hown.out⟩, (hc3.same cb (Array.getElem?_eq_some_iff.1 hr2.out).1 (fun h => h)).trans hr2.out, hc2.out.trans hc3 (fun _ h => h.elim)⟩
      replace FIN := hid FIN
      clear hU2 hN2 hc3
      generalize grow (w2.drewN nq) osq = w3 at FIN ⊢
      go_wp2
      refine bodyPost_ret (v := .tuple #[.int .i64 0, .int .i64 18]) (by simp [results, Try.results8, go_sem]) rfl ?_
      exact FIN.out
end Go.Proofs.Ytidgppghakmkaaa
