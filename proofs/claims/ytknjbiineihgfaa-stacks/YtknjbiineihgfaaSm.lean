/-
  The law's want, and the program's find.
-/
import Derived.Test.YtknjbiineihgfaaSj
set_option linter.unusedVariables false
set_option linter.unusedSimpArgs false
namespace Go.Proofs.Ytknjbiineihgfaa
open Go.RowKit

/-- What was asked so far, in the variable of the block P. -/
structure Ask (w : World) (P : Nat) (v : Value) (l : List Int) : Prop where
  blk : w.heap[P]? = some (.cells #[v] 39 (0, 0))
  row : w.ownsRow 0 3 1 v l.length (l.map (Value.int .i64))
  ne : v.ownBlock ≠ some P
theorem Ask.keep {w w' : World} {P : Nat} {v : Value} {l : List Int} (h : Ask w P v l) (hs : ∀ k, own P v k → w'.heap[k]? = w.heap[k]?) : Ask w' P v l :=
  ⟨(hs P (.inl rfl)).trans h.blk, ownsRow_keep h.row (fun k hk => hs k (.inr hk)), h.ne⟩
theorem Ask.lt {w : World} {P : Nat} {v : Value} {l : List Int} (h : Ask w P v l) {k : Nat} (hk : own P v k) : k < w.heap.size := by
  rcases hk with rfl | hk
  · exact (Array.getElem?_eq_some_iff.1 h.blk).1
  · exact ownsRow_lt h.row hk
theorem ints_one (l : List Int) : ∀ u ∈ l.map (Value.int .i64), u.oneCell' = true := by
  intro u hu
  obtain ⟨z, _, rfl⟩ := List.mem_map.1 hu
  rfl

theorem app_box {W w1 : World} {B n : Nat} {T e : TypeId} {size : Nat} {X : Obj} {u v' : Value} {xs : List Value} (h1 : W.heap[B]? = some (.cells #[u] T (0, 0))) (h3 : u.ownBlock ≠ some B) (hrow1 : w1.ownsRow 0 e size v' (n + 1) xs) (hgrow : (W.alloc X).grownBy w1 u.ownBlock) :
    ∃ g' cap', v' = .slice (some ⟨g', 0, none⟩) (n + 1) cap' ∧ w1.heap[B]? = some (.cells #[u] T (0, 0)) ∧ w1.cell? ⟨B, 0, none⟩ = some u ∧ w1.frozen? ⟨B, 0, none⟩ = false := by
  obtain ⟨g', cap', rfl⟩ := ownsRow_succ hrow1
  have hb2 : (W.alloc X).heap[B]? = _ := blk_alloc h1
  have hb3 := (hgrow.block B (Array.getElem?_eq_some_iff.1 hb2).1 (fun e => h3 e.symm)).trans hb2
  exact ⟨g', cap', rfl, hb3, by simp [World.cell?, hb3], by simp [World.frozen?, hb3]⟩
theorem app_other {W w1 : World} {Q : Nat} {X : Obj} {u w0 : Value} (hQ : W.cell? ⟨Q, 0, none⟩ = some w0) (h3 : u.ownBlock ≠ some Q) (hgrow : (W.alloc X).grownBy w1 u.ownBlock) : w1.cell? ⟨Q, 0, none⟩ = some w0 := by
  have hl : Q < W.heap.size := block_lt_of_cell hQ
  have hc : Ch (fun k => u.ownBlock = some k) W w1 := ((Ch.refl _ W).al _).trans (Ch.grown hgrow (fun k hk => hk)) (fun k hk => .inl hk)
  exact (hc.cell (p := ⟨Q, 0, none⟩) hl h3).trans hQ

theorem box_fin {W w1 : World} {B n : Nat} {T e : TypeId} {size : Nat} {X : Obj} {u v' : Value} {ys : List Value} (hB : B < W.heap.size) (hne : u.ownBlock ≠ some B) (hrow1 : w1.ownsRow 0 e size v' n ys) (hgrow : (W.alloc X).grownBy w1 u.ownBlock)
    (hblk : v'.ownBlock = u.ownBlock ∨ v'.ownBlock = some (W.alloc X).heap.size) (hb3 : w1.heap[B]? = some (.cells #[u] T (0, 0))) :
    (w1.setCell ⟨B, 0, none⟩ v').heap[B]? = some (.cells #[v'] T (0, 0)) ∧ (w1.setCell ⟨B, 0, none⟩ v').ownsRow 0 e size v' n ys ∧ v'.ownBlock ≠ some B ∧ Ch (own B u) W (w1.setCell ⟨B, 0, none⟩ v') ∧ More W (own B u) (own B v') := by
  have hsz : (W.alloc X).heap.size = W.heap.size + 1 := by simp
  have hne' : v'.ownBlock ≠ some B := fun e => by
    rcases hblk with e2 | e2
    · exact hne (e2.symm.trans e)
    · rw [e2] at e; simp at e; omega
  refine ⟨blk_set hb3, ownsRow_keep hrow1 (fun k hk => Below.heap_setCell _ _ _ k (fun e => hne' (by rw [hk, e]))), hne', ?_, ?_⟩
  · exact ((((Ch.refl _ W).al _).trans (Ch.grown hgrow (fun k hk => hk)) (fun k hk => .inl (.inr hk))).set (a := ⟨B, 0, none⟩) (.inl rfl) _)
  · rintro k (e | e)
    · exact .inl (.inl e)
    · rcases hblk with e2 | e2
      · exact .inl (.inr (e2.symm.trans e))
      · rw [e2] at e; simp only [Option.some.injEq] at e; exact .inr (by omega)

set_option maxHeartbeats 2000000 in
theorem want_any (w : World) (P Q : Nat) (v : Value) (l : List Int) (k tag : Int) (h : Ask w P v l) (hl : l.length < 1000000000) (hQ : w.cell? ⟨Q, 0, none⟩ = some (.int .i64 k)) (hQP : ¬ own P v Q) :
    Calls Try.prog 18 #[.int .i64 tag, .pointer (some ⟨P, 0, none⟩), .pointer (some ⟨Q, 0, none⟩)] w fun e w' => e = .returned (.bool (decide (tag.tmod 3 = k))) ∧
      ∃ v', Ask w' P v' (l ++ [tag]) ∧ Ch (own P v) w w' ∧ More w (own P v) (own P v') := by
  have h1 := h.blk
  have hcl : w.cell? ⟨P, 0, none⟩ = some v := by simp [World.cell?, h1]
  have hfr : w.frozen? ⟨P, 0, none⟩ = false := by simp [World.frozen?, h1]
  have hPl : P < w.heap.size := h.lt (.inl rfl)
  have hQl : Q < w.heap.size := block_lt_of_cell hQ
  obtain ⟨a, cap, rfl, _⟩ := row_slice h.row
  have hAc : ∀ j u, ([.int .i64 tag] : List Value)[j]? = some u → (w.alloc (.cells #[.int .i64 tag] 3)).cell? ((⟨w.heap.size, 0, none⟩ : Addr).add j) = some u := by
    intro j u hj
    have hb := World.alloc_heap_new w (.cells #[.int .i64 tag] 3)
    rw [add_cell]
    simp only [World.cell?, hb]
    simpa using hj
  have hr1 : (w.alloc (.cells #[.int .i64 tag] 3)).ownsRow 0 3 1 (.slice a l.length cap) l.length (l.map (Value.int .i64)) := ownsRow_keep h.row (fun k hk => (Ch.alloc (fun _ => False) w _).same k (ownsRow_lt h.row hk) (fun h => h))
  have h3 := h.ne
  have hQv : (Value.slice a l.length cap).ownBlock ≠ some Q := fun e => hQP (.inr e)
  have hPQ : P ≠ Q := fun e => hQP (.inl e.symm)
  have hPQ2 : Q ≠ P := fun e => hQP (.inl e)
  go_enter Try.func18, Try.ntmps18
  go_wp2_with (at_builtin; go_must (refine list_append rfl (.tmp 5) (.tmp 7) 39 rfl 3 (.int .i64 0) 1 8 Try.underlying39 Try.info3 rfl (by decide) (.slice a l.length cap) l.length (l.map (Value.int .i64)) rfl hr1 ⟨w.heap.size, 0, none⟩ 1 1 [.int .i64 tag] rfl rfl hAc (by simp [Value.oneCell']) (by unfold maxLen; omega) (by omega) ?_); intro v' w1 hrow1 hgrow hblk; obtain ⟨g', cap', rfl, hb3, hcl3, hfr3⟩ := app_box h1 h3 hrow1 hgrow; have hQ3 := app_other hQ hQv hgrow)
  go_ret
  obtain ⟨f1, f2, f3, f4, f5⟩ := box_fin hPl h3 hrow1 hgrow hblk hb3
  refine ⟨?_, _, ⟨f1, by simpa using f2, f3⟩, f4, f5⟩
  show Ending.returned (.bool (tag.tmod 3 == k)) = _
  congr 2

/-- The search for a wanted tag: the segment's number (0: none), and the tags that are asked about. -/
def findN (k : Int) (L : List Sg) : Nat → Nat × List Int
  | 0 => (0, [])
  | m + 1 => match L[m + 1]? with
    | some s => if s.has then (if s.tag.tmod 3 = k then (m + 1, [s.tag]) else ((findN k L m).1, s.tag :: (findN k L m).2)) else findN k L m
    | none => (0, [])
theorem findN_le (k : Int) (L : List Sg) : ∀ m, (findN k L m).1 ≤ m
  | 0 => Nat.le_refl _
  | m + 1 => by
    unfold findN
    have := findN_le k L m
    split
    · split
      · split
        · exact Nat.le_refl _
        · show (findN k L m).1 ≤ m + 1; omega
      · omega
    · exact Nat.zero_le _

set_option maxHeartbeats 8000000 in
theorem find_any (w : World) (D : Nat → Prop) (b : Nat) (S : List Sn) (z : Sn) (a : Option Addr) (cap g : Nat) (cnt : Int) (hDl : ∀ k, D k → k < w.heap.size) (h : RowAt D w b S z a cap g cnt) (hn : S.length < 100000000)
    (P Q : Nat) (v : Value) (l : List Int) (k : Int) (hA : Ask w P v l) (hl : l.length < 100000000) (hQ : w.cell? ⟨Q, 0, none⟩ = some (.int .i64 k)) (hQP : ¬ own P v Q) (hDP : ∀ j, D j → ¬ own P v j) :
    Calls Try.prog 31 #[.pointer (some ⟨b, 0, none⟩), .func (.func 18) #[] #[.pointer (some ⟨P, 0, none⟩), .pointer (some ⟨Q, 0, none⟩)]] w fun e w' => e = .returned (.int .i64 ((findN k ((S ++ [z]).map Sn.s) S.length).1 : Nat)) ∧
      ∃ v', Ask w' P v' (l ++ (findN k ((S ++ [z]).map Sn.s) S.length).2) ∧ Ch (own P v) w w' ∧ More w (own P v) (own P v') := by
  have hv := h.fv
  have hQl : Q < w.heap.size := block_lt_of_cell hQ
  have heq : ∀ (W : World) (c : Array Value), (binOp BinOp.eql 43 (Value.func (.func 18) #[] c) Value.nilFunc).run Try.prog W = .ok (.bool false) W := fun _ _ => rfl
  obtain ⟨L, hL⟩ : ∃ L, (S ++ [z]).map Sn.s = L := ⟨_, rfl⟩
  rw [hL]
  go_enter Try.func31, Try.ntmps31
  go_wp2
  go_loopw [5] (fun i wr => ∃ (m : Nat) (v1 : Value) (as1 : List Int), i = .int .i64 m ∧ m ≤ S.length ∧ Hid (Ask wr P v1 as1 ∧ Ch (own P v) w wr ∧ More w (own P v) (own P v1) ∧ as1 ++ (findN k L m).2 = l ++ (findN k L S.length).2 ∧ (findN k L m).1 = (findN k L S.length).1 ∧ as1.length + m ≤ l.length + S.length)) (fun i _ => (intOf i).toNat)
  case atStart => exact ⟨S.length, v, l, rfl, Nat.le_refl _, hA, Ch.refl _ _, fun _ h => .inl h, rfl, rfl, Nat.le_refl _⟩
  case round =>
    obtain ⟨m, v1, as1, rfl, hm, HI⟩ := hrel
    cases m with
    | zero =>
      obtain ⟨hA1, hc1, hm1, e1, e2, _⟩ := HI.out
      go_wp2
      go_ret
      refine ⟨?_, v1, ?_, hc1, hm1⟩
      · rw [← e2]; rfl
      · rw [← e1]; simpa [findN] using hA1
    | succ m =>
      have hD1 : ∀ j, D j → wr.heap[j]? = w.heap[j]? := fun j hj => HI.out.2.1.same j (hDl j hj) (hDP j hj)
      have hR1 := h.keep (fun _ h => h) hD1
      have hv1 := hR1.fv
      obtain ⟨x, c, o, hx, hq, hseg, _, _⟩ := hR1.place hR1.fz (i := m + 1) (by omega)
      have hLm : L[m + 1]? = some x.s := by rw [← hL, List.getElem?_map, hx]; rfl
      have hat : Calls Try.prog 32 #[.pointer (some ⟨b, 0, none⟩), .int .i64 ((m : Int) + 1)] wr fun e w' => e = .returned (.pointer (some ⟨c, o, none⟩)) ∧ w' = wr := by
        by_cases e : m + 1 = S.length
        · rw [if_pos e] at hq
          cases hq
          have := at_inner wr b S.length a cap hv1
          rw [← e] at this
          exact this
        · rw [if_neg e] at hq
          cases hq
          obtain rfl : a = some ⟨g, 0, none⟩ := by rcases hR1.fa with h | h; omega; exact h
          exact at_outer wr b S.length (m + 1) g cap hv1 (by omega)
      obtain ⟨-, -, s2, s3⟩ := hseg
      have hw : IntKind.i64.wrap ((m : Int) + 1 - 1) = (m : Int) := by rw [IntWalk.i64_in _ (by omega)]; omega
      have hw2 : IntKind.i64.wrap (m : Int) = (m : Int) := IntWalk.i64_in _ (by omega)
      have hpos : (0 : Int) < (m : Int) + 1 := by omega
      clear hq hD1 hR1 hx
      cases hh : x.s.has with
      | false =>
        rw [hh] at s3
        have ef : findN k L (m + 1) = findN k L m := by rw [findN, hLm]; simp [hh]
        have HI2 : Hid (Ask wr P v1 as1 ∧ Ch (own P v) w wr ∧ More w (own P v) (own P v1) ∧ as1 ++ (findN k L m).2 = l ++ (findN k L S.length).2 ∧ (findN k L m).1 = (findN k L S.length).1 ∧ as1.length + m ≤ l.length + S.length) := by
          obtain ⟨g1, g2, g3, g4, g5, g6⟩ := HI.out
          rw [ef] at g4 g5
          exact ⟨g1, g2, g3, g4, g5, by omega⟩
        clear HI ef hLm
        go_wp2_with (go_at_call 32; refine hat.mono ?_; clear hat; rintro e wr ⟨rfl, rfl⟩; dsimp only)
        go_roundw
        case rel => exact ⟨m, v1, as1, by simp, by omega, HI2⟩
        case measure => simp [intOf]
      | true =>
        rw [hh] at s3
        obtain ⟨g1, g2, g3, g4, g5, g6⟩ := HI.out
        have hQ1 : wr.cell? ⟨Q, 0, none⟩ = some (.int .i64 k) := (g2.cell (p := ⟨Q, 0, none⟩) hQl hQP).trans hQ
        have hQP1 : ¬ own P v1 Q := fun e => by rcases g3 Q e with e | e; exact hQP e; omega
        have hwt := want_any wr P Q v1 as1 k x.s.tag g1 (by omega) hQ1 hQP1
        by_cases ht : x.s.tag.tmod 3 = k
        · have ef : findN k L (m + 1) = (m + 1, [x.s.tag]) := by rw [findN, hLm]; simp [hh, ht]
          rw [ef] at g4 g5
          have hd : decide (x.s.tag.tmod 3 = k) = true := by simpa using ht
          rw [hd] at hwt
          have G4 := hid g4
          have G5 := hid g5
          clear HI ef hLm g1 g4 g5 g6 ht hd
          go_wp2_with (first | (go_at_call 32; refine hat.mono ?_; clear hat; rintro e wr ⟨rfl, rfl⟩; dsimp only) | (go_at_call 18; refine hwt.mono ?_; clear hwt; rintro e W3 ⟨rfl, v3, hA3, hc3, hm3⟩; dsimp only))
          go_ret
          refine ⟨?_, v3, ?_, g2.trans hc3 g3, fun j hj => ?_⟩
          · rw [← G5.out]; simp
          · rw [← G4.out]; exact hA3
          · rcases hm3 j hj with e | e
            · exact g3 j e
            · have := g2.size; exact .inr (by omega)
        · have ef : findN k L (m + 1) = ((findN k L m).1, x.s.tag :: (findN k L m).2) := by rw [findN, hLm]; simp [hh, ht]
          rw [ef] at g4 g5
          have hd : decide (x.s.tag.tmod 3 = k) = false := by simpa using ht
          rw [hd] at hwt
          have G4 := hid g4
          have G5 := hid g5
          clear HI ef hLm g1 g4 g5 ht hd
          go_wp2_with (first | (go_at_call 32; refine hat.mono ?_; clear hat; rintro e wr ⟨rfl, rfl⟩; dsimp only) | (go_at_call 18; refine hwt.mono ?_; clear hwt; rintro e W3 ⟨rfl, v3, hA3, hc3, hm3⟩; dsimp only))
          go_roundw
          case rel =>
            refine ⟨m, v3, as1 ++ [x.s.tag], by simp, by omega, hid ⟨hA3, g2.trans hc3 g3, fun j hj => ?_, ?_, G5.out, ?_⟩⟩
            · rcases hm3 j hj with e | e
              · exact g3 j e
              · have := g2.size; exact .inr (by omega)
            · rw [← G4.out]; simp
            · simp; omega
          case measure => simp [intOf]
end Go.Proofs.Ytknjbiineihgfaa
