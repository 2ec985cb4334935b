/-
  The program's Cut.
-/
import Derived.Test.YtknjbiineihgfaaSk
import Derived.Test.YtknjbiineihgfaaSm
set_option linter.unusedVariables false
set_option linter.unusedSimpArgs false
namespace Go.Proofs.Ytknjbiineihgfaa
open Go.RowKit

set_option maxHeartbeats 1000000 in
theorem untag_any (w : World) (c o : Nat) (t h : Value) (h2 : w.cell? ⟨c, o + 2, none⟩ = some t) (h3 : w.cell? ⟨c, o + 3, none⟩ = some h) (hf : ∀ i, w.frozen? ⟨c, i, none⟩ = false) :
    Calls Try.prog 33 #[.pointer (some ⟨c, o, none⟩)] w fun e w' => e = .returned (.tuple #[]) ∧ w' = (w.setCell ⟨c, o + 2, none⟩ (.int .i64 0)).setCell ⟨c, o + 3, none⟩ (.bool false) := by
  have f2 := hf (o + 2)
  have f3 := hf (o + 3)
  go_enter Try.func33, Try.ntmps33
  go_wp2
  go_end0
  exact ⟨rfl, rfl⟩

/-- A stack's row copied to a box of its own, as a row to be read. -/
theorem StM.rowAt {D : Nat → Prop} {w W : World} {b B : Nat} {T T' : TypeId} {v : Value} {S : List Sn} {z : Sn} (h : StM D w b T v S z) (hs : ∀ k, (v.ownBlock = some k ∨ D k) → W.heap[k]? = w.heap[k]?) (hB : W.heap[B]? = some (.cells (rowCells v S z) T' (0, 0))) :
    ∃ a cap g, v = .slice a S.length cap ∧ RowAt (fun k => D k ∨ v.ownBlock = some k ∨ k = B) W B S z a cap g (cntN (S ++ [z]) : Nat) := by
  obtain ⟨a, cap, rfl, ha, _⟩ := row_slice h.row
  obtain ⟨c0, c1, c2, c3, c4, c5, hf⟩ := row_cells hB
  have hrW : W.ownsRow 0 57 4 (.slice a S.length cap) S.length (S.flatMap Sn.cells) := ownsRow_keep h.row (fun k hk => hs k (.inl hk))
  obtain ⟨g, hg⟩ : ∃ g, S.length = 0 ∨ a = some ⟨g, 0, none⟩ := by
    rcases ha with h0 | ⟨g, h0⟩
    · exact ⟨0, .inl h0⟩
    · exact ⟨g, .inr h0⟩
  refine ⟨a, cap, g, rfl, c0, hg, ⟨c1, c2, c3, c4⟩, c5, fun i x hx => ?_, fun x hx => (h.ch x hx).keep (fun k hk => .inl hk) (fun k hk => hs k (.inr hk)), .inr (.inr rfl), hg.imp_right (fun e => by subst e; exact .inr (.inl rfl))⟩
  have hi : i < S.length := (List.getElem?_eq_some_iff.1 hx).1
  rcases hg with h0 | rfl
  · omega
  · exact ⟨row_cell hrW _ _ ((flat_get S i 0 x hx (by decide)).trans rfl), row_cell hrW _ _ ((flat_get S i 1 x hx (by decide)).trans rfl), row_cell hrW _ _ ((flat_get S i 2 x hx (by decide)).trans rfl), row_cell hrW _ _ ((flat_get S i 3 x hx (by decide)).trans rfl)⟩

theorem own_set {w : World} {base : Nat} {e : TypeId} {size g n cap : Nat} {xs : List Value} (h : w.ownsRow base e size (.slice (some ⟨g, 0, none⟩) n cap) n xs) (i : Nat) (u : Value) (hi : i < xs.length) : (w.setCell ⟨g, i, none⟩ u).ownsRow base e size (.slice (some ⟨g, 0, none⟩) n cap) n (xs.set i u) := by
  rcases h.2 with ⟨h1, _⟩ | ⟨g', cap', cur, h1, hb, hg, h2, h3, h4, h5⟩
  · cases h1
  · cases h1
    refine ⟨by rw [List.length_set]; exact h.1, .inr ⟨g, cap, cur.setIfInBounds i u, rfl, hb, blk_set hg, h2, h3, by rw [Array.size_setIfInBounds, h4], ?_⟩⟩
    rw [Array.toList_setIfInBounds, ← h5, List.take_set]
theorem own_frozen {w : World} {base : Nat} {e : TypeId} {size g n cap : Nat} {xs : List Value} (h : w.ownsRow base e size (.slice (some ⟨g, 0, none⟩) n cap) n xs) (i : Nat) : w.frozen? ⟨g, i, none⟩ = false := by
  rcases h.2 with ⟨h1, _⟩ | ⟨g', cap', cur, h1, hb, hg, h2, h3, h4, h5⟩
  · cases h1
  · cases h1
    simp [World.frozen?, hg]
def unS (s : Sg) : Sg := ⟨false, 0, s.l⟩
def unN (x : Sn) : Sn := ⟨x.p, unS x.s⟩

/-- What Cut answers and leaves. -/
def CutPost (D : Nat → Prop) (w : World) (b : Nat) (v : Value) (S : List Sn) (z : Sn) (deep : Bool) (P : Nat) (va : Value) (k : Int) (e : Ending) (w' : World) : Prop :=
      (∃ va', Ask w' P va' (findN k ((S ++ [z]).map Sn.s) S.length).2 ∧ More w (own P va) (own P va')) ∧
      (((findN k ((S ++ [z]).map Sn.s) S.length).1 = 0 ∧ e = .returned (.tuple #[.pointer none, .int .i64 0, .bool false]) ∧ StM D w' b 61 v S z ∧ Ch (own P va) w w') ∨
       (∃ n x y pb D' v' u PS pz, (findN k ((S ++ [z]).map Sn.s) S.length).1 = n + 1 ∧ S[n]? = some x ∧ (S ++ [z])[n + 1]? = some y ∧ e = .returned (.tuple #[.pointer (some ⟨pb, 0, none⟩), .int .i64 y.s.tag, .bool true]) ∧
        StM D' w' b 61 v' (S.take n) x ∧ PcM D' w' pb u PS pz ∧ PS ++ [pz] = (if deep then [y] else [unN y]) ++ (S ++ [z]).drop (n + 2) ∧ (∀ j, D j → D' j) ∧ (∀ j, D' j → j < w'.heap.size) ∧ More w D D' ∧ More w (own b v) (own b v') ∧ Ch (fun j => own b v j ∨ own P va j) w w'))

theorem cut_end {D : Nat → Prop} {w G : World} {b g9 cap n pb : Nat} {S PS : List Sn} {z x y pz : Sn} {deep : Bool} {P : Nat} {va va' u : Value} {k : Int} {fa : List Int} (hDl : ∀ k, D k → k < w.heap.size) (h : StM D w b 61 (.slice (some ⟨g9, 0, none⟩) S.length cap) S z)
    (hDP : ∀ j, D j → ¬ own P va j) (hA : Ask G P va' fa) (hm : More w (own P va) (own P va')) (hFN : findN k ((S ++ [z]).map Sn.s) S.length = (n + 1, fa)) (hx : S[n]? = some x) (hy : (S ++ [z])[n + 1]? = some y)
    (hGb : G.heap[b]? = some (.cells (rowCells (.slice (some ⟨g9, 0, none⟩) n cap) (S.take n) x) 61 (0, 0))) (hGp : G.heap[pb]? = some (.cells (rowCells u PS pz) 76 (0, 0)))
    (hrA : G.ownsRow 0 57 4 (.slice (some ⟨g9, 0, none⟩) n cap) n ((S.take n).flatMap Sn.cells)) (hrB : G.ownsRow 0 57 4 u PS.length (PS.flatMap Sn.cells)) (hC : Ch (fun j => own b (.slice (some ⟨g9, 0, none⟩) S.length cap) j ∨ own P va j) w G)
    (hpb : w.heap.size ≤ pb) (hu : ∀ j, u.ownBlock = some j → w.heap.size ≤ j) (hP : PS ++ [pz] = (if deep then [y] else [unN y]) ++ (S ++ [z]).drop (n + 2)) :
    CutPost D w b (.slice (some ⟨g9, 0, none⟩) S.length cap) S z deep P va k (.returned (.tuple #[.pointer (some ⟨pb, 0, none⟩), .int .i64 y.s.tag, .bool true])) G := by
  have hnl : n < S.length := (List.getElem?_eq_some_iff.1 hx).1
  have hDG : ∀ j, D j → G.heap[j]? = w.heap[j]? := fun j hj => hC.same j (hDl j hj) (fun e => by rcases e with e | e; exact h.dis j e hj; exact hDP j hj e)
  have hbl := h.lt
  have hgl : g9 < w.heap.size := h.own_lt (.inr rfl)
  have hown : ∀ j, own pb u j → w.heap.size ≤ j := fun j hj => by rcases hj with e | e; omega; exact hu j e
  have hchain : ∀ q ∈ S ++ [z], ∀ D2 : Nat → Prop, (∀ j, D j → D2 j) → Chain D2 G q.p q.s.l.reverse := fun q hq D2 h2 => (h.ch q hq).keep h2 hDG
  unfold CutPost
  rw [hFN]
  refine ⟨⟨va', hA, hm⟩, .inr ⟨n, x, y, pb, fun j => D j ∨ own pb u j, .slice (some ⟨g9, 0, none⟩) n cap, u, PS, pz, rfl, hx, hy, rfl, ⟨hGb, ?_, ?_, ?_, ?_⟩, ⟨hGp, hrB, ?_, fun j hj => .inr hj⟩, hP, fun j hj => .inl hj, fun j hj => ?_, fun j hj => hj.imp_right (hown j), fun j hj => .inl hj, hC⟩⟩
  · have e : (S.take n).length = n := by simp; omega
    rw [e]; exact hrA
  · intro q hq
    refine hchain q ?_ _ (fun j hj => .inl hj)
    rcases List.mem_append.1 hq with e | e
    · exact List.mem_append.2 (.inl (List.mem_of_mem_take e))
    · obtain rfl : q = x := by simpa using e
      exact List.mem_append.2 (.inl (List.mem_of_getElem? hx))
  · intro j hj hd
    have hj2 : own b (.slice (some ⟨g9, 0, none⟩) S.length cap) j := hj
    rcases hd with e | e
    · exact h.dis j hj2 e
    · have := hown j e; have := h.own_lt hj2; omega
  · exact h.ne
  · intro q hq
    rw [hP] at hq
    rcases List.mem_append.1 hq with e | e
    · have hym : y ∈ S ++ [z] := List.mem_of_getElem? hy
      cases deep
      · obtain rfl : q = unN y := by simpa using e
        exact hchain y hym _ (fun j hj => .inl hj)
      · obtain rfl : q = y := by simpa using e
        exact hchain _ hym _ (fun j hj => .inl hj)
    · exact hchain q (List.mem_of_mem_drop e) _ (fun j hj => .inl hj)
  · rcases hj with e | e | e
    · exact Nat.lt_of_lt_of_le (hDl j e) hC.size
    · rw [e]; exact (Array.getElem?_eq_some_iff.1 hGp).1
    · exact ownsRow_lt hrB e

set_option maxHeartbeats 8000000 in
theorem cut_any {D : Nat → Prop} (w : World) (b : Nat) (v : Value) (S : List Sn) (z : Sn) (deep : Bool) (hDl : ∀ k, D k → k < w.heap.size) (h : StM D w b 61 v S z) (hl : S.length < 1000000) (hcn : cntN (S ++ [z]) < 1000000000)
    (P Q : Nat) (va : Value) (k : Int) (hA : Ask w P va []) (hQ : w.cell? ⟨Q, 0, none⟩ = some (.int .i64 k)) (hQP : ¬ own P va Q) (hDP : ∀ j, D j ∨ own b v j → ¬ own P va j) :
    Calls Try.prog 17 #[.pointer (some ⟨b, 0, none⟩), .func (.func 18) #[] #[.pointer (some ⟨P, 0, none⟩), .pointer (some ⟨Q, 0, none⟩)], .bool deep] w fun e w' =>
      CutPost D w b v S z deep P va k e w' := by
  obtain ⟨c0, c1, c2, c3, c4, c5, hf⟩ := h.cells
  have hbl := h.lt
  obtain ⟨W1, hW1⟩ : ∃ W1, w.alloc (.cells (rowCells v S z) 59) = W1 := ⟨_, rfl⟩
  have hc1 : Ch (fun _ => False) w W1 := by rw [← hW1]; exact (Ch.refl _ w).al _
  have hB1 : W1.heap[w.heap.size]? = some (.cells (rowCells v S z) 59 (0, 0)) := by rw [← hW1]; exact World.alloc_heap_new w _
  obtain ⟨a, cap, g, rfl, hR⟩ := h.rowAt (fun k hk => hc1.same k (by rcases hk with e | e; exact h.own_lt (.inr e); exact hDl k e) (fun h => h)) hB1
  have hs1 : W1.heap.size = w.heap.size + 1 := by rw [← hW1]; simp
  have hA1 : Ask W1 P va [] := hA.keep (fun k hk => hc1.same k (hA.lt hk) (fun h => h))
  have hQ1 : W1.cell? ⟨Q, 0, none⟩ = some (.int .i64 k) := (hc1.cell (p := ⟨Q, 0, none⟩) (block_lt_of_cell hQ) (fun h => h)).trans hQ
  have hfind := find_any W1 _ w.heap.size S z a cap g _ (fun j hj => by rcases hj with e | e | e; have := hDl j e; omega; have := h.own_lt (.inr e); omega; omega) hR (by omega) P Q va [] k hA1 (by simp) hQ1 hQP (fun j hj ho => by rcases hj with e | e | e; exact hDP j (.inl e) ho; exact hDP j (.inr (.inr e)) ho; have := hA.lt ho; omega)
  unfold rowCells at hW1
  go_enter Try.func17, Try.ntmps17
  go_upto_region 2 with (fail)
  clear hW1
  have hle := findN_le k ((S ++ [z]).map Sn.s) S.length
  obtain ⟨⟨fn, fa⟩, hFN⟩ : ∃ r, findN k ((S ++ [z]).map Sn.s) S.length = r := ⟨_, rfl⟩
  rw [hFN] at hfind hle
  dsimp only at hfind hle
  rw [List.nil_append] at hfind
  cases fn with
  | zero =>
    replace hFN := hid hFN
    go_wp2_with (go_at_call 31; refine hfind.mono ?_; clear hfind; rintro e W2 ⟨rfl, va2, hA2, hc2, hm2⟩; dsimp only)
    refine bodyPost_ret (v := .tuple #[.pointer none, .int .i64 0, .bool false]) (by simp [results, Try.results17, go_sem]) rfl ?_
    have hcw : Ch (own P va) w W2 := (hc1.mono (fun _ h => h.elim)).trans hc2 (fun _ h => .inl h)
    unfold CutPost
    rw [hFN.out]
    refine ⟨⟨va2, hA2, fun j hj => (hm2 j hj).imp_right (fun e => by omega)⟩, .inl ⟨rfl, rfl, h.keep (fun _ h => h) h.dis (fun j hj => hcw.same j ?_ ?_), hcw⟩⟩
    · rcases hj with e | e
      · exact h.own_lt e
      · exact hDl j e
    · exact hDP j hj.symm
  | succ n =>
    have hnl : n < S.length := by omega
    obtain ⟨x, hx⟩ : ∃ x, S[n]? = some x := ⟨S[n], by simp⟩
    obtain ⟨g9, rfl⟩ : ∃ g9, a = some ⟨g9, 0, none⟩ := by
      obtain ⟨g9, cap9, e9, _⟩ := h.row_some (by omega)
      cases e9
      exact ⟨_, rfl⟩
    replace hFN := hid hFN
    go_upto_region 6 with (go_at_call 31; refine hfind.mono ?_; clear hfind; rintro e W2 ⟨rfl, va2, hA2, hc2, hm2⟩; dsimp only)
    have hPl : ∀ j, own P va j → j < w.heap.size := fun j hj => hA.lt hj
    have hBW : W2.heap[w.heap.size]? = some (.cells (rowCells (.slice (some ⟨g9, 0, none⟩) S.length cap) S z) 59 (0, 0)) := (hc2.same _ (by omega) (fun e => by have := hPl _ e; omega)).trans hB1
    have hcw : Ch (own P va) w W2 := (hc1.mono (fun _ h => h.elim)).trans hc2 (fun _ h => .inl h)
    have hg9 : g9 < w.heap.size := h.own_lt (.inr rfl)
    have hrW : W2.ownsRow 0 57 4 (.slice (some ⟨g9, 0, none⟩) S.length cap) S.length (S.flatMap Sn.cells) := ownsRow_keep h.row (fun j hj => hcw.same j (ownsRow_lt h.row hj) (hDP j (.inr (.inr hj))))
    have hsp := split_any W2 w.heap.size 59 g9 cap S z n x hBW hrW (by omega) hnl hx (by omega) hcn
    obtain ⟨N1, hN1⟩ : ∃ N1, cntN (S.take n ++ [x]) = N1 := ⟨_, rfl⟩
    obtain ⟨B, hBdef⟩ : ∃ B, S.drop (n + 1) = B := ⟨_, rfl⟩
    rw [hBdef] at hsp
    obtain ⟨N2, hN2⟩ : ∃ N2, cntN (B ++ [z]) = N2 := ⟨_, rfl⟩
    unfold rowCells at hsp
    rw [hN1, hN2] at hsp
    have hw2 := hcw.size
    rw [show (((n + 1 : Nat) : Int)) = (n : Int) + 1 by omega] at hsp
    clear hR hB1 hQ1 hA1 hc2
    go_upto_region 7 with (go_at_call 30; refine hsp.mono ?_; clear hsp; rintro e W3 ⟨v2, rfl, hrowA, hrowB, hv2, hc3⟩; (obtain ⟨a2, cap2, rfl, ha2, _⟩ := row_slice hrowB); dsimp only)
    have hn7 : w.heap.size ≤ W3.heap.size := Nat.le_trans hw2 hc3.size
    have hT := Two.a (W := W3) (n := w.heap.size) (a0 := .slice (some ⟨g9, 0, none⟩) n cap) (a1 := .pointer x.p) (a2 := .int .i64 x.s.l.length) (a3 := .int .i64 x.s.tag) (a4 := .bool x.s.has) (a5 := .int .i64 (N1 : Int)) (b0 := .slice a2 B.length cap2) (b1 := .pointer z.p) (b2 := .int .i64 z.s.l.length) (b3 := .int .i64 z.s.tag) (b4 := .bool z.s.has) (b5 := .int .i64 (N2 : Int)) hn7
    have hnew : Ch (fun _ => False) W3 ((W3.alloc (.cells #[.slice (some ⟨g9, 0, none⟩) n cap, .pointer x.p, .int .i64 x.s.l.length, .int .i64 x.s.tag, .bool x.s.has, .int .i64 (N1 : Int)] 59)).alloc (.cells #[.slice a2 B.length cap2, .pointer z.p, .int .i64 z.s.l.length, .int .i64 z.s.tag, .bool z.s.has, .int .i64 (N2 : Int)] 59)) := ((Ch.refl _ W3).al _).al _
    obtain ⟨A5, hA5⟩ : ∃ A5, W3.heap.size = A5 := ⟨_, rfl⟩
    rw [hA5] at hT ⊢
    generalize (W3.alloc (.cells #[.slice (some ⟨g9, 0, none⟩) n cap, .pointer x.p, .int .i64 x.s.l.length, .int .i64 x.s.tag, .bool x.s.has, .int .i64 (N1 : Int)] 59)).alloc (.cells #[.slice a2 B.length cap2, .pointer z.p, .int .i64 z.s.l.length, .int .i64 z.s.tag, .bool z.s.has, .int .i64 (N2 : Int)] 59) = E at hT hnew ⊢
    have hcE : Ch (fun j => j = g9) W2 E := hc3.trans (hnew.mono (fun _ h => h.elim)) (fun _ h => .inl h)
    have hgb : g9 ≠ b := fun e => h.ne (by rw [← e]; rfl)
    have hbE : E.heap[b]? = some (.cells (rowCells (.slice (some ⟨g9, 0, none⟩) S.length cap) S z) 61 (0, 0)) := ((hcE.same b (by omega) (fun e => hgb e.symm)).trans (hcw.same b hbl (hDP b (.inr (.inl rfl))))).trans h.blk
    have hrAE : E.ownsRow 0 57 4 (.slice (some ⟨g9, 0, none⟩) n cap) n ((S.take n).flatMap Sn.cells) := ownsRow_keep hrowA (fun j hj => hnew.same j (ownsRow_lt hrowA hj) (fun h => h))
    have hrBE : E.ownsRow 0 57 4 (.slice a2 B.length cap2) B.length (B.flatMap Sn.cells) := ownsRow_keep hrowB (fun j hj => hnew.same j (ownsRow_lt hrowB hj) (fun h => h))
    have hva2 : ∀ j, own P va2 j → j ≠ g9 ∧ j ≠ b ∧ j < W2.heap.size := fun j hj => by
      refine ⟨fun e => ?_, fun e => ?_, hA2.lt hj⟩
      · rcases hm2 j hj with e2 | e2
        · exact hDP j (.inr (.inr (by rw [e]; rfl))) e2
        · omega
      · rcases hm2 j hj with e2 | e2
        · exact hDP j (.inr (.inl e)) e2
        · omega
    have hAE : Ask E P va2 fa := hA2.keep (fun j hj => hcE.same j (hva2 j hj).2.2 (hva2 j hj).1)
    clear c0 c1 c2 c3 c4 c5 hf hrowA hrowB hrW hBW hc3 hnew
    obtain ⟨c0, c1, c2, c3, c4, c5, hf⟩ := row_cells hbE
    obtain ⟨r0, r1, r2, r3, r4, r5, rf⟩ := six_cells hT.h5
    obtain ⟨p0, p1, p2, p3, p4, p5, pf⟩ := six_cells hT.h6
    have l6 := hT.l6
    have hE6 : A5 + 1 < E.heap.size := (Array.getElem?_eq_some_iff.1 hT.h6).1
    have hne6 : A5 + 1 ≠ b := by omega
    have hne7 : b ≠ A5 + 1 := by omega
    have hne5 : A5 ≠ b := by have := hT.l5; omega
    have hne8 : b ≠ A5 := by have := hT.l5; omega
    go_upto_region 9 with (fail)
    have hFb : ((set6 E b (.slice (some ⟨g9, 0, none⟩) n cap) (.pointer x.p) (.int .i64 x.s.l.length) (.int .i64 x.s.tag) (.bool x.s.has) (.int .i64 (N1 : Int))).alloc (.cells #[.slice a2 B.length cap2, .pointer z.p, .int .i64 z.s.l.length, .int .i64 z.s.tag, .bool z.s.has, .int .i64 (N2 : Int)] 76)).heap[b]? = some (.cells #[.slice (some ⟨g9, 0, none⟩) n cap, .pointer x.p, .int .i64 x.s.l.length, .int .i64 x.s.tag, .bool x.s.has, .int .i64 (N1 : Int)] 61 (0, 0)) := blk_alloc (set6_at _ _ _ _ _ _ hbE)
    have hFp : ((set6 E b (.slice (some ⟨g9, 0, none⟩) n cap) (.pointer x.p) (.int .i64 x.s.l.length) (.int .i64 x.s.tag) (.bool x.s.has) (.int .i64 (N1 : Int))).alloc (.cells #[.slice a2 B.length cap2, .pointer z.p, .int .i64 z.s.l.length, .int .i64 z.s.tag, .bool z.s.has, .int .i64 (N2 : Int)] 76)).heap[E.heap.size]? = some (.cells #[.slice a2 B.length cap2, .pointer z.p, .int .i64 z.s.l.length, .int .i64 z.s.tag, .bool z.s.has, .int .i64 (N2 : Int)] 76 (0, 0)) := by
      have := World.alloc_heap_new (set6 E b (.slice (some ⟨g9, 0, none⟩) n cap) (.pointer x.p) (.int .i64 x.s.l.length) (.int .i64 x.s.tag) (.bool x.s.has) (.int .i64 (N1 : Int))) (.cells #[.slice a2 B.length cap2, .pointer z.p, .int .i64 z.s.l.length, .int .i64 z.s.tag, .bool z.s.has, .int .i64 (N2 : Int)] 76)
      rwa [set6_size] at this
    have hcF : Ch (fun j => j = b) E ((set6 E b (.slice (some ⟨g9, 0, none⟩) n cap) (.pointer x.p) (.int .i64 x.s.l.length) (.int .i64 x.s.tag) (.bool x.s.has) (.int .i64 (N1 : Int))).alloc (.cells #[.slice a2 B.length cap2, .pointer z.p, .int .i64 z.s.l.length, .int .i64 z.s.tag, .bool z.s.has, .int .i64 (N2 : Int)] 76)) := (set6_ch (O := fun j => j = b) E _ _ _ _ _ _ rfl).al _
    clear c0 c1 c2 c3 c4 c5 hf r0 r1 r2 r3 r4 r5 rf p0 p1 p2 p3 p4 p5 pf hbE hT
    generalize (set6 E b (.slice (some ⟨g9, 0, none⟩) n cap) (.pointer x.p) (.int .i64 x.s.l.length) (.int .i64 x.s.tag) (.bool x.s.has) (.int .i64 (N1 : Int))).alloc (.cells #[.slice a2 B.length cap2, .pointer z.p, .int .i64 z.s.l.length, .int .i64 z.s.tag, .bool z.s.has, .int .i64 (N2 : Int)] 76) = F at hFb hFp hcF ⊢
    have hrAF := ownsRow_keep hrAE (fun j hj => hcF.same j (ownsRow_lt hrAE hj) (fun e => by have e2 : some g9 = some j := hj; cases e2; exact hgb e))
    have hrBF := ownsRow_keep hrBE (fun j hj => hcF.same j (ownsRow_lt hrBE hj) (fun e => by have := hv2 j hj; omega))
    have hAF := hAE.keep (fun j hj => hcF.same j (hAE.lt hj) (hva2 j hj).2.1)
    obtain ⟨p0, p1, p2, p3, p4, p5, pf⟩ := six_cells hFp
    have hpbl : E.heap.size < F.heap.size := (Array.getElem?_eq_some_iff.1 hFp).1
    have hv2' : (Value.slice a2 B.length cap2).ownBlock ≠ some E.heap.size := fun e => by have := ownsRow_lt hrBE e; omega
    obtain ⟨c, o, y, hat, ⟨s0, s1, s2, s3⟩, hy0, hfz, hun⟩ : ∃ c o y, (Calls Try.prog 32 #[.pointer (some ⟨E.heap.size, 0, none⟩), .int .i64 0] F fun e w' => e = .returned (.pointer (some ⟨c, o, none⟩)) ∧ w' = F) ∧ SegAt F c o y ∧ (B ++ [z])[0]? = some y ∧ (∀ i, F.frozen? ⟨c, i, none⟩ = false) ∧
        (∃ PS pz, ((F.setCell ⟨c, o + 2, none⟩ (.int .i64 0)).setCell ⟨c, o + 3, none⟩ (.bool false)).heap[E.heap.size]? = some (.cells (rowCells (.slice a2 B.length cap2) PS pz) 76 (0, 0)) ∧ ((F.setCell ⟨c, o + 2, none⟩ (.int .i64 0)).setCell ⟨c, o + 3, none⟩ (.bool false)).ownsRow 0 57 4 (.slice a2 B.length cap2) PS.length (PS.flatMap Sn.cells) ∧
          PS ++ [pz] = [unN y] ++ (B ++ [z]).drop 1 ∧ Ch (fun j => own E.heap.size (.slice a2 B.length cap2) j) F ((F.setCell ⟨c, o + 2, none⟩ (.int .i64 0)).setCell ⟨c, o + 3, none⟩ (.bool false))) := by
      cases B with
      | nil =>
        refine ⟨E.heap.size, 1, z, at_inner F E.heap.size 0 a2 cap2 p0, ⟨p1, p2, p3, p4⟩, rfl, pf, [], unN z, ?_, ?_, rfl, ?_⟩
        · rw [blk_set (blk_set hFp)]
          simp [rowCells, unN, unS, ← hN2, cntN]
        · exact ownsRow_keep hrBF (fun j hj => by rw [Below.heap_setCell _ _ _ j (fun e => hv2' (by rw [hj, e])), Below.heap_setCell _ _ _ j (fun e => hv2' (by rw [hj, e]))])
        · exact ((Ch.refl _ F).set (a := ⟨E.heap.size, 1 + 2, none⟩) (.inl rfl) _).set (a := ⟨E.heap.size, 1 + 3, none⟩) (.inl rfl) _
      | cons y B' =>
        obtain ⟨g2, rfl⟩ : ∃ g2, a2 = some ⟨g2, 0, none⟩ := by rcases ha2 with e | ⟨g2, e⟩; simp at e; exact ⟨g2, e⟩
        have hg2 : g2 ≠ E.heap.size := fun e => hv2' (by rw [← e]; rfl)
        have c0 : F.cell? ⟨g2, 0, none⟩ = some (.pointer y.p) := row_cell hrBF 0 _ rfl
        have c1 : F.cell? ⟨g2, 0 + 1, none⟩ = some (.int .i64 y.s.l.length) := row_cell hrBF 1 _ rfl
        have c2 : F.cell? ⟨g2, 0 + 2, none⟩ = some (.int .i64 y.s.tag) := row_cell hrBF 2 _ rfl
        have c3 : F.cell? ⟨g2, 0 + 3, none⟩ = some (.bool y.s.has) := row_cell hrBF 3 _ rfl
        refine ⟨g2, 0, y, ?_, ⟨c0, c1, c2, c3⟩, rfl, own_frozen hrBF, unN y :: B', z, ?_, ?_, rfl, ?_⟩
        · have := at_outer F E.heap.size (y :: B').length 0 g2 cap2 p0 (by simp)
          simpa using this
        · refine (blk_other (blk_other hFp (by exact fun e => hg2 e.symm)) (by exact fun e => hg2 e.symm)).trans ?_
          simp [rowCells, ← hN2, cntN, unN, unS]
        · have := own_set (own_set hrBF 2 (.int .i64 0) (by rw [flat_len, List.length_cons]; omega)) 3 (.bool false) (by rw [List.length_set, flat_len, List.length_cons]; omega)
          simpa [Sn.cells, unN, unS] using this
        · exact ((Ch.refl _ F).set (a := ⟨g2, 0 + 2, none⟩) (.inr rfl) _).set (a := ⟨g2, 0 + 3, none⟩) (.inr rfl) _
    have hL2 : S ++ [z] = S.take (n + 1) ++ (B ++ [z]) := by rw [← hBdef, ← List.append_assoc, List.take_append_drop]
    have hlen2 : (S.take (n + 1)).length = n + 1 := by simp; omega
    have hy : (S ++ [z])[n + 1]? = some y := by rw [hL2, List.getElem?_append_right (by omega), hlen2, Nat.sub_self]; exact hy0
    have hdrop : (S ++ [z]).drop (n + 2) = (B ++ [z]).drop 1 := by rw [hL2, List.drop_append, hlen2, List.drop_of_length_le (by omega), List.nil_append]; congr 1; omega
    have hBz : B ++ [z] = [y] ++ (B ++ [z]).drop 1 := by
      cases hq : B ++ [z] with
      | nil => simp at hq
      | cons q r => rw [hq] at hy0; simp at hy0; subst hy0; rfl
    have hcWE : Ch (fun j => own b (.slice (some ⟨g9, 0, none⟩) S.length cap) j ∨ own P va j) w F :=
      ((hcw.mono (fun j e => .inr e)).trans hcE (fun j e => .inl (.inl (.inr (by rw [e]; rfl))))).trans hcF (fun j e => .inl (.inl (.inl e)))
    have hmW : More w (own P va) (own P va2) := fun j hj => (hm2 j hj).imp_right (fun e => by omega)
    have hpbE : w.heap.size ≤ E.heap.size := by have := hcE.size; omega
    have hvW : ∀ j, (Value.slice a2 B.length cap2).ownBlock = some j → w.heap.size ≤ j := fun j hj => by have := hv2 j hj; omega
    replace hL2 := hid hL2
    replace hBz := hid hBz
    replace hdrop := hid hdrop
    replace hN1 := hid hN1
    replace hN2 := hid hN2
    replace hBdef := hid hBdef
    clear hlen2
    cases deep with
    | true =>
      go_wp2_with (go_at_call 32; refine hat.mono ?_; clear hat; rintro e F ⟨rfl, rfl⟩; dsimp only)
      refine bodyPost_ret (v := .tuple #[.pointer (some ⟨E.heap.size, 0, none⟩), .int .i64 y.s.tag, .bool true]) (by simp [results, Try.results17, go_sem]) rfl ?_
      refine cut_end hDl h (fun j hj => hDP j (.inl hj)) hAF hmW hFN.out hx hy (by rw [hFb]; simp [rowCells, hN1.out]) (PS := B) (pz := z) (by rw [hFp]; simp [rowCells, hN2.out]) hrAF hrBF hcWE hpbE hvW ?_
      rw [hdrop.out]
      exact hBz.out
    | false =>
      have hut := untag_any F c o _ _ s2 s3 hfz
      go_wp2_with (first | (go_at_call 32; refine hat.mono ?_; rintro e F ⟨rfl, rfl⟩; dsimp only) | (go_at_call 33; refine hut.mono ?_; clear hut hat; rintro e G ⟨rfl, rfl⟩; dsimp only))
      refine bodyPost_ret (v := .tuple #[.pointer (some ⟨E.heap.size, 0, none⟩), .int .i64 y.s.tag, .bool true]) (by simp [results, Try.results17, go_sem]) rfl ?_
      obtain ⟨PS, pz, u1, u2, u3, u4⟩ := hun
      have hog : ∀ j, own E.heap.size (.slice a2 B.length cap2) j → W2.heap.size ≤ j := fun j hj => by
        rcases hj with e | e
        · have := hcE.size; omega
        · exact hv2 j e
      have hsF : F.heap.size ≥ E.heap.size := by omega
      refine cut_end hDl h (fun j hj => hDP j (.inl hj)) (hAF.keep (fun j hj => u4.same j (hAF.lt hj) (fun e => by have := hog j e; have := (hva2 j hj).2.2; omega))) hmW hFN.out hx hy ?_ (PS := PS) (pz := pz) u1 (ownsRow_keep hrAF (fun j hj => u4.same j (ownsRow_lt hrAF hj) (fun e => by have := hog j e; have e2 : some g9 = some j := hj; cases e2; omega))) u2 (hcWE.trans u4 (fun j e => .inr (by have := hog j e; omega))) hpbE hvW ?_
      · rw [u4.same b (by omega) (fun e => by have := hog b e; omega), hFb]
        simp [rowCells, hN1.out]
      · rw [hdrop.out]
        exact u3
end Go.Proofs.Ytknjbiineihgfaa
