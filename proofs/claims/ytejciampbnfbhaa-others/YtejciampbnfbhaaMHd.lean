import Derived.Test.YtejciampbnfbhaaProg
import Derived.WalkSpells
import Derived.Test.YtejciampbnfbhaaOa
import Derived.MapKept
import Derived.Deep.LoopGhost
set_option linter.unusedVariables false
set_option linter.unusedSimpArgs false
set_option maxRecDepth 100000
set_option maxHeartbeats 4000000
namespace Go.Proofs.Ytejciampbnfbhaa
open Go.RowKit
theorem hid {p : Prop} (h : p) : Hid p := h
theorem ret_bool {a b : Bool} (h : a = b) : Ending.returned (.bool a) = .returned (.bool b) := by rw [h]
end Go.Proofs.Ytejciampbnfbhaa

namespace Go.Proofs.Ytejciampbnfbhaa
open Go.RowKit
def MI (w : World) (mB : Nat) (l : List (Int × Int)) : Prop := ∃ es clock, w.heap[mB]? = some (.map es clock) ∧ es.toList.map (fun e => (e.key, e.val)) = l.map fun p => (Value.int .i64 p.1, Value.int .i64 p.2)
theorem MI.lt {w : World} {mB : Nat} {l : List (Int × Int)} (h : MI w mB l) : mB < w.heap.size := by
 obtain ⟨es, c, h, _⟩ := h
 exact (Array.getElem?_eq_some_iff.1 h).1
theorem MI.keep {w w' : World} {mB : Nat} {l : List (Int × Int)} (h : MI w mB l) (hs : w'.heap[mB]? = w.heap[mB]?) : MI w' mB l := by
 obtain ⟨es, c, h, he⟩ := h
 exact ⟨es, c, hs.trans h, he⟩
structure Gg where
 v : Nat → Value
 xs : Nat → List Value
 t : Nat
 r : Nat
 tv : List (Int × Int)
 rv : List (Int × Int)
def el (i : Nat) : TypeId := if i = 5 then 46 else 3
def Gg.own (G : Gg) (b : Nat) (k : Nat) : Prop := k = b ∨ (∃ i, i < 7 ∧ (G.v i).ownBlock = some k) ∨ k = G.t ∨ k = G.r
structure GM (w : World) (b : Nat) (G : Gg) : Prop where
 blk : w.heap[b]? = some (.cells #[G.v 0, G.v 1, G.v 2, G.v 3, G.v 4, G.v 5, G.v 6, .map (some G.t), .map (some G.r)] 92 (0, 0))
 row : ∀ i, i < 7 → w.ownsRow 0 (el i) 1 (G.v i) (G.xs i).length (G.xs i)
 mt : MI w G.t G.tv
 mr : MI w G.r G.rv
 d1 : ∀ i j k, i < 7 → j < 7 → (G.v i).ownBlock = some k → (G.v j).ownBlock = some k → i = j
 d2 : ∀ i, i < 7 → (G.v i).ownBlock ≠ some b ∧ (G.v i).ownBlock ≠ some G.t ∧ (G.v i).ownBlock ≠ some G.r
 d3 : b ≠ G.t ∧ b ≠ G.r ∧ G.t ≠ G.r
theorem GM.lt {w : World} {b : Nat} {G : Gg} (h : GM w b G) {k : Nat} (hk : G.own b k) : k < w.heap.size := by
 rcases hk with rfl | ⟨i, hi, hk⟩ | rfl | rfl
 ·exact (Array.getElem?_eq_some_iff.1 h.blk).1
 ·exact ownsRow_lt (h.row i hi) hk
 ·exact h.mt.lt
 ·exact h.mr.lt
theorem GM.keep {w w' : World} {b : Nat} {G : Gg} (h : GM w b G) (hs : ∀ k, G.own b k → w'.heap[k]? = w.heap[k]?) : GM w' b G :=
 ⟨(hs b (.inl rfl)).trans h.blk, fun i hi => ownsRow_keep (h.row i hi) (fun k hk => hs k (.inr (.inl ⟨i, hi, hk⟩))), h.mt.keep (hs _ (.inr (.inr (.inl rfl)))), h.mr.keep (hs _ (.inr (.inr (.inr rfl)))), h.d1, h.d2, h.d3⟩
theorem GM.apart {w w' : World} {b : Nat} {G : Gg} {O : Nat → Prop} (h : GM w b G) (hc : Ch O w w') (hd : ∀ k, G.own b k → ¬ O k) : GM w' b G := h.keep fun k hk => hc.same k (h.lt hk) (hd k hk)
theorem GM.quiet {w w' : World} {b : Nat} {G : Gg} (h : GM w b G) (hc : Ch (fun _ => False) w w') : GM w' b G := h.apart hc fun _ _ h => h
def Gg.setRow (G : Gg) (i : Nat) (v' : Value) (ys : List Value) : Gg := { G with v := fun j => if j = i then v' else G.v j, xs := fun j => if j = i then ys else G.xs j }
theorem setRow_v (G : Gg) (i : Nat) (v' : Value) (ys : List Value) : (G.setRow i v' ys).v i = v' := by simp [Gg.setRow]
theorem setRow_x (G : Gg) (i : Nat) (v' : Value) (ys : List Value) : (G.setRow i v' ys).xs i = ys := by simp [Gg.setRow]
theorem setRow_vo (G : Gg) {i j : Nat} (v' : Value) (ys : List Value) (h : j ≠ i) : (G.setRow i v' ys).v j = G.v j := by simp [Gg.setRow, h]
theorem setRow_xo (G : Gg) {i j : Nat} (v' : Value) (ys : List Value) (h : j ≠ i) : (G.setRow i v' ys).xs j = G.xs j := by simp [Gg.setRow, h]
theorem setRow_own {G : Gg} {i b : Nat} {v' : Value} {ys : List Value} {w : World} (hi : i < 7) (hm : ∀ k, v'.ownBlock = some k → (G.v i).ownBlock = some k ∨ w.heap.size ≤ k) : More w (G.own b) ((G.setRow i v' ys).own b) := by
 rintro k (h | ⟨j, hj, h⟩ | h | h)
 ·exact .inl (.inl h)
 ·by_cases e : j = i
  ·subst e
   rw [setRow_v] at h
   rcases hm k h with h | h
   ·exact .inl (.inr (.inl ⟨j, hj, h⟩))
   ·exact .inr h
  ·rw [setRow_vo _ _ _ e] at h
   exact .inl (.inr (.inl ⟨j, hj, h⟩))
 ·exact .inl (.inr (.inr (.inl h)))
 ·exact .inl (.inr (.inr (.inr h)))
theorem GM.app {w w1 : World} {b : Nat} {G : Gg} (h : GM w b G) {i : Nat} (hi : i < 7) {v' : Value} {ys : List Value} (hown : w1.ownsRow 0 (el i) 1 v' ys.length ys) (hch : Ch (fun k => (G.v i).ownBlock = some k) w w1)
  (hblk : ∀ k, v'.ownBlock = some k → (G.v i).ownBlock = some k ∨ w.heap.size ≤ k) : GM (w1.setCell ⟨b, i, none⟩ v') b (G.setRow i v' ys) ∧ Ch (G.own b) w (w1.setCell ⟨b, i, none⟩ v') ∧ More w (G.own b) ((G.setRow i v' ys).own b) := by
 have hb := h.lt (.inl rfl : G.own b b)
 have hb1 : w1.heap[b]? = w.heap[b]? := hch.same b hb (h.d2 i hi).1
 have hvb : v'.ownBlock ≠ some b := fun e => by
  rcases hblk b e with e | e
  ·exact (h.d2 i hi).1 e
  ·omega
 have hset : ∀ k, k ≠ b → (w1.setCell ⟨b, i, none⟩ v').heap[k]? = w1.heap[k]? := fun k hk => Below.heap_setCell w1 _ v' k hk
 have hold : ∀ k, k < w.heap.size → k ≠ b → (G.v i).ownBlock ≠ some k → (w1.setCell ⟨b, i, none⟩ v').heap[k]? = w.heap[k]? := fun k hk h1 h2 => (hset k h1).trans (hch.same k hk h2)
 refine ⟨⟨?_, fun j hj => ?_, ?_, ?_, fun j l k hj hl h1 h2 => ?_, fun j hj => ?_, h.d3⟩, ?_, setRow_own hi hblk⟩
 ·rw [blk_set (hb1.trans h.blk)]
  have : i = 0 ∨ i = 1 ∨ i = 2 ∨ i = 3 ∨ i = 4 ∨ i = 5 ∨ i = 6 := by omega
  rcases this with rfl | rfl | rfl | rfl | rfl | rfl | rfl <;> simp [Gg.setRow]
 ·by_cases e : j = i
  ·subst e
   rw [setRow_v, setRow_x]; exact ownsRow_keep hown (fun k hk => hset k (fun e => hvb (e ▸ hk)))
  ·rw [setRow_vo _ _ _ e, setRow_xo _ _ _ e]
   exact ownsRow_keep (h.row j hj) (fun k hk => hold k (ownsRow_lt (h.row j hj) hk) (fun e => (h.d2 j hj).1 (e ▸ hk)) (fun e2 => e (h.d1 j i k hj hi hk e2)))
 ·exact h.mt.keep (hold _ h.mt.lt (fun e => h.d3.1 e.symm) (h.d2 i hi).2.1)
 ·exact h.mr.keep (hold _ h.mr.lt (fun e => h.d3.2.1 e.symm) (h.d2 i hi).2.2)
 ·by_cases e1 : j = i <;> by_cases e2 : l = i
  ·rw [e1, e2]
  ·subst e1
   rw [setRow_v] at h1; rw [setRow_vo _ _ _ e2] at h2
   rcases hblk k h1 with e | e
   ·exact h.d1 _ _ k hj hl e h2
   ·have := ownsRow_lt (h.row l hl) h2; omega
  ·subst e2
   rw [setRow_v] at h2; rw [setRow_vo _ _ _ e1] at h1
   rcases hblk k h2 with e | e
   ·exact h.d1 _ _ k hj hl h1 e
   ·have := ownsRow_lt (h.row j hj) h1; omega
  ·rw [setRow_vo _ _ _ e1] at h1
   rw [setRow_vo _ _ _ e2] at h2; exact h.d1 _ _ k hj hl h1 h2
 ·by_cases e : j = i
  ·subst e
   rw [setRow_v]; have ht := h.mt.lt; have hr := h.mr.lt; refine ⟨hvb, fun e => ?_, fun e => ?_⟩
   ·rcases hblk _ e with e | e
    ·exact (h.d2 j hj).2.1 e
    ·show False
     have : G.t < w.heap.size := ht; exact absurd (show w.heap.size ≤ G.t from e) (by omega)
   ·rcases hblk _ e with e | e
    ·exact (h.d2 j hj).2.2 e
    ·have : G.r < w.heap.size := hr
     exact absurd (show w.heap.size ≤ G.r from e) (by omega)
  ·rw [setRow_vo _ _ _ e]; exact h.d2 j hj
 ·exact (hch.mono (fun k hk => .inr (.inl ⟨i, hi, hk⟩))).trans (Ch.setCell (O := G.own b) w1 ⟨b, i, none⟩ v' (.inl rfl)) (fun k hk => .inl hk)
theorem GM.set {w : World} {b : Nat} {G : Gg} (h : GM w b G) {i j : Nat} (hi : i < 7) (hj : j < (G.xs i).length) (u : Value) {g n cap : Nat} (hv : G.v i = .slice (some ⟨g, 0, none⟩) n cap) :
  GM (w.setCell ⟨g, j, none⟩ u) b (G.setRow i (G.v i) ((G.xs i).set j u)) ∧ Ch (G.own b) w (w.setCell ⟨g, j, none⟩ u) := by
 have hg : (G.v i).ownBlock = some g := by rw [hv]; rfl
 have hrow := h.row i hi
 have hn : n = (G.xs i).length := by
  rw [hv] at hrow
  obtain ⟨a, c, e, _⟩ := row_slice hrow
  cases e
  rfl
 have hset : ∀ k, k ≠ g → (w.setCell ⟨g, j, none⟩ u).heap[k]? = w.heap[k]? := fun k hk => Below.heap_setCell w _ u k hk
 have hv' : ∀ l, (G.setRow i (G.v i) ((G.xs i).set j u)).v l = G.v l := fun l => by
  by_cases e : l = i
  ·subst e; exact setRow_v _ _ _ _
  ·exact setRow_vo _ _ _ e
 refine ⟨⟨?_, fun l hl => ?_, ?_, ?_, fun l m k hl hm h1 h2 => ?_, fun l hl => ?_, h.d3⟩, Ch.setCell w _ u (.inr (.inl ⟨i, hi, hg⟩))⟩
 ·simp only [hv']
  exact (hset b (fun e => (h.d2 i hi).1 (e ▸ hg))).trans h.blk
 ·rw [hv']
  by_cases e : l = i
  ·subst e
   rw [setRow_x, List.length_set]; rw [hv, ← hn] at hrow ⊢; exact own_set hrow j u hj
  ·rw [setRow_xo _ _ _ e]
   exact ownsRow_keep (h.row l hl) (fun k hk => hset k (fun e2 => e (h.d1 l i k hl hi hk (e2 ▸ hg))))
 ·exact h.mt.keep (hset _ (fun e => (h.d2 i hi).2.1 (e ▸ hg)))
 ·exact h.mr.keep (hset _ (fun e => (h.d2 i hi).2.2 (e ▸ hg)))
 ·rw [hv'] at h1 h2; exact h.d1 _ _ k hl hm h1 h2
 ·rw [hv']; exact h.d2 l hl
theorem GM.at {w : World} {b : Nat} {G : Gg} (h : GM w b G) {i j : Nat} (hi : i < 7) {u : Value} (hu : (G.xs i)[j]? = some u) : ∃ g cap, G.v i = .slice (some ⟨g, 0, none⟩) (G.xs i).length cap ∧ w.cell? ⟨g, j, none⟩ = some u ∧ w.frozen? ⟨g, j, none⟩ = false ∧ j < (G.xs i).length := by
 have hrow := h.row i hi
 have hl := (List.getElem?_eq_some_iff.1 hu).1
 obtain ⟨a, cap, e, h1, _⟩ := row_slice hrow
 obtain ⟨g, rfl⟩ : ∃ g, a = some ⟨g, 0, none⟩ := by rcases h1 with h1 | h1; omega; exact h1
 rw [e] at hrow
 exact ⟨g, cap, e, row_cell hrow j u hu, own_frozen hrow j, hl⟩
theorem GM.cells {w : World} {b : Nat} {G : Gg} (h : GM w b G) : w.cell? ⟨b, 0, none⟩ = some (G.v 0) ∧ w.cell? ⟨b, 1, none⟩ = some (G.v 1) ∧ w.cell? ⟨b, 2, none⟩ = some (G.v 2) ∧ w.cell? ⟨b, 3, none⟩ = some (G.v 3) ∧ w.cell? ⟨b, 4, none⟩ = some (G.v 4) ∧ w.cell? ⟨b, 5, none⟩ = some (G.v 5) ∧ w.cell? ⟨b, 6, none⟩ = some (G.v 6) ∧ w.cell? ⟨b, 7, none⟩ = some (.map (some G.t)) ∧ w.cell? ⟨b, 8, none⟩ = some (.map (some G.r)) := by
 refine ⟨?_, ?_, ?_, ?_, ?_, ?_, ?_, ?_, ?_⟩ <;> (unfold World.cell?; rw [h.blk]; rfl)
theorem GM.frozen {w : World} {b : Nat} {G : Gg} (h : GM w b G) (i : Nat) : w.frozen? ⟨b, i, none⟩ = false := by
 unfold World.frozen?; rw [h.blk]; simp
theorem GM.slice {w : World} {b : Nat} {G : Gg} (h : GM w b G) {i : Nat} (hi : i < 7) : ∃ a cap, G.v i = .slice a (G.xs i).length cap ∧ ((G.xs i).length = 0 ∨ ∃ g, a = some ⟨g, 0, none⟩) ∧ (G.xs i).length ≤ cap := row_slice (h.row i hi)
end Go.Proofs.Ytejciampbnfbhaa

namespace Go.Proofs.Ytejciampbnfbhaa
open Go.RowKit
theorem Try.info3 : (Try.prog.info? 3).map (fun i => (i.zero, i.size, i.bytes)) = some (some (.int .i64 0), 1, 8) := by kernel_rfl
theorem Try.infoStrs : (Try.prog.info? 46).map (fun i => (i.zero, i.size, i.bytes)) = some (some (.slice none 0 0), 1, 24) := by kernel_rfl
theorem Try.info9 : (Try.prog.info? 9).map (fun i => (i.zero, i.size, i.bytes)) = some (some (.string ⟨#[]⟩), 1, 16) := by kernel_rfl
theorem ownsRow_succ {w : World} {base : Nat} {e : TypeId} {size : Nat} {v : Value} {n : Nat} {xs : List Value} (h : w.ownsRow base e size v (n + 1) xs) : ∃ g cap, v = .slice (some ⟨g, 0, none⟩) (n + 1) cap := by
 rcases h.2 with ⟨_, h⟩ | ⟨g, cap, cur, rfl, _⟩
 ·cases h
 ·exact ⟨g, cap, rfl⟩
theorem GM.row_al {w : World} {b : Nat} {G : Gg} (h : GM w b G) {i : Nat} (hi : i < 7) {a : Option Addr} {cap : Nat} (hv : G.v i = .slice a (G.xs i).length cap) (o : Obj) : (w.alloc o).ownsRow 0 (el i) 1 (.slice a (G.xs i).length cap) (G.xs i).length (G.xs i) := by
 have := h.row i hi
 rw [hv] at this
 exact ownsRow_keep this (fun k hk => (Ch.alloc (fun _ => False) w _).same k (ownsRow_lt this hk) (fun h => h))
theorem al_ch (w : World) (o : Obj) : Ch (fun _ => False) w (w.alloc o) := (Ch.refl _ w).al o
theorem Ch.two {O O1 : Nat → Prop} {a b c : World} (h : Ch O a b) (k : Ch O1 b c) (hm : More a O O1) : Ch O a c := h.trans k hm
theorem More.two {a b : World} {O O1 O2 : Nat → Prop} (h : More a O O1) (k : More b O1 O2) (hs : a.heap.size ≤ b.heap.size) : More a O O2 := fun i hi => by
 rcases k i hi with e | e
 ·exact h i e
 ·exact .inr (by omega)
structure Pu (G G' : Gg) (i : Nat) (u : Value) : Prop where
 xs : ∀ j, G'.xs j = if j = i then G.xs i ++ [u] else G.xs j
 tv : G'.tv = G.tv
 rv : G'.rv = G.rv
theorem GM.push {w w1 : World} {b : Nat} {G : Gg} (h : GM w b G) {i : Nat} (hi : i < 7) {a : Option Addr} {cap : Nat} (hv : G.v i = .slice a (G.xs i).length cap) {o : Obj} {u v' : Value} (hrow : w1.ownsRow 0 (el i) 1 v' ((G.xs i).length + 1) (G.xs i ++ [u])) (hgrow : (w.alloc o).grownBy w1 (Value.slice a (G.xs i).length cap).ownBlock)
  (hblk : v'.ownBlock = (Value.slice a (G.xs i).length cap).ownBlock ∨ v'.ownBlock = some (w.alloc o).heap.size) : ∃ G', GM (w1.setCell ⟨b, i, none⟩ v') b G' ∧ Ch (G.own b) w (w1.setCell ⟨b, i, none⟩ v') ∧ More w (G.own b) (G'.own b) ∧ Pu G G' i u := by
 rw [← hv] at hgrow hblk
 obtain ⟨h1, h2, h3⟩ := h.app (i := i) hi (v' := v') (ys := G.xs i ++ [u]) (by simpa using hrow) (app_ch (al_ch w o) hgrow) (app_more (al_ch w o) hblk)
 exact ⟨_, h1, h2, h3, ⟨fun j => by simp only [Gg.setRow], rfl, rfl⟩⟩
def Gg.small (G : Gg) (N : Nat) : Prop := ∀ i, i < 7 → (G.xs i).length < N
def PutX (k a c r : Int) (i : Nat) : List Value := if i = 0 then [.int .i64 k] else if i = 1 then [.int .i64 a] else if i = 2 then [.int .i64 c] else if i = 3 then [.int .i64 r] else if i = 4 then [.int .i64 (-1)] else []
theorem Put_any (w : World) (b : Nat) (G : Gg) (h : GM w b G) (hl : G.small 1000000000) (k a c r : Int) :
  Calls Try.prog 63 #[.pointer (some ⟨b, 0, none⟩), .int .i64 k, .int .i64 a, .int .i64 c, .int .i64 r] w fun e w' => e = .returned (.int .i64 ((G.xs 0).length : Nat)) ∧ ∃ G', GM w' b G' ∧ Ch (G.own b) w w' ∧ More w (G.own b) (G'.own b) ∧ (∀ i, G'.xs i = G.xs i ++ PutX k a c r i) ∧ G'.tv = G.tv ∧ G'.rv = G.rv := by
 have ah := h
 have hl0 : (G.xs 0).length < 1000000000 := hl 0 (by omega)
 have hw0 : IntKind.i64.wrap (((G.xs 0).length : Int) + 1 - 1) = ((G.xs 0).length : Int) := by rw [show ((G.xs 0).length : Int) + 1 - 1 = ((G.xs 0).length : Int) by omega]; exact IntWalk.i64_in _ (by omega)
 go_enter Try.func63, Try.ntmps63
 obtain ⟨aa, acap, av, _, _⟩ := ah.slice (i := 0) (by omega)
 have ar := ah.row_al (i := 0) (by omega) av (.cells #[.int .i64 k] 3)
 have au : (Value.slice aa (G.xs 0).length acap).ownBlock ≠ some b := av ▸ (ah.d2 0 (by omega)).1
 have ac := ah.cells.1
 rw [av] at ac
 have af := ah.frozen
 go_upto_region 2 with (at_builtin; go_must (refine list_append rfl (.tmp 15) (.tmp 17) 90 rfl 3 (.int .i64 0) 1 8 Try.underlying90 Try.info3 rfl (by decide) (.slice aa (G.xs 0).length acap) (G.xs 0).length (G.xs 0) rfl ar ⟨w.heap.size, 0, none⟩ 1 1 [.int .i64 k] rfl rfl (new_one w (.int .i64 k) 3) (by simp [Value.oneCell']) (by unfold maxLen; omega) (by omega) ?_); intro av' aw1 arow agr abl; (obtain ⟨ag', acap', rfl⟩ := ownsRow_succ arow); (obtain ⟨ae1, ae2⟩ := app_keep (al_ch w _) agr au ac af))
 obtain ⟨G0, an1, an2, an3, an4⟩ := ah.push (i := 0) (by omega) av arow agr abl
 clear arow agr abl ae1 ae2 ar au ac af
 generalize World.setCell aw1 ⟨b, 0, none⟩ _ = W0 at an1 an2 ⊢
 have bh := an1
 have bl : (G0.xs 1).length < 1000000000 := by have := hl 1 (by omega); simpa [an4.xs] using this
 obtain ⟨ba, bcap, bv, _, _⟩ := bh.slice (i := 1) (by omega)
 have br := bh.row_al (i := 1) (by omega) bv (.cells #[.int .i64 a] 3)
 have bu : (Value.slice ba (G0.xs 1).length bcap).ownBlock ≠ some b := bv ▸ (bh.d2 1 (by omega)).1
 have bc := bh.cells.2.1
 rw [bv] at bc
 have bf := bh.frozen
 go_upto_region 3 with (at_builtin; go_must (refine list_append rfl (.tmp 25) (.tmp 27) 90 rfl 3 (.int .i64 0) 1 8 Try.underlying90 Try.info3 rfl (by decide) (.slice ba (G0.xs 1).length bcap) (G0.xs 1).length (G0.xs 1) rfl br ⟨W0.heap.size, 0, none⟩ 1 1 [.int .i64 a] rfl rfl (new_one W0 (.int .i64 a) 3) (by simp [Value.oneCell']) (by unfold maxLen; omega) (by omega) ?_); intro bv' bw1 brow bgr bbl; (obtain ⟨bg', bcap', rfl⟩ := ownsRow_succ brow); (obtain ⟨be1, be2⟩ := app_keep (al_ch W0 _) bgr bu bc bf))
 obtain ⟨G1, bn1, bn2, bn3, bn4⟩ := bh.push (i := 1) (by omega) bv brow bgr bbl
 clear brow bgr bbl be1 be2 br bu bc bf
 generalize World.setCell bw1 ⟨b, 1, none⟩ _ = W1 at bn1 bn2 ⊢
 have ch := bn1
 have cl : (G1.xs 2).length < 1000000000 := by have := hl 2 (by omega); simpa [bn4.xs, an4.xs] using this
 obtain ⟨ca, ccap, cv, _, _⟩ := ch.slice (i := 2) (by omega)
 have cr := ch.row_al (i := 2) (by omega) cv (.cells #[.int .i64 c] 3)
 have cu : (Value.slice ca (G1.xs 2).length ccap).ownBlock ≠ some b := cv ▸ (ch.d2 2 (by omega)).1
 have cc := ch.cells.2.2.1
 rw [cv] at cc
 have cf := ch.frozen
 go_upto_region 4 with (at_builtin; go_must (refine list_append rfl (.tmp 35) (.tmp 37) 90 rfl 3 (.int .i64 0) 1 8 Try.underlying90 Try.info3 rfl (by decide) (.slice ca (G1.xs 2).length ccap) (G1.xs 2).length (G1.xs 2) rfl cr ⟨W1.heap.size, 0, none⟩ 1 1 [.int .i64 c] rfl rfl (new_one W1 (.int .i64 c) 3) (by simp [Value.oneCell']) (by unfold maxLen; omega) (by omega) ?_); intro cv' cw1 crow cgr cbl; (obtain ⟨cg', ccap', rfl⟩ := ownsRow_succ crow); (obtain ⟨ce1, ce2⟩ := app_keep (al_ch W1 _) cgr cu cc cf))
 obtain ⟨G2, cn1, cn2, cn3, cn4⟩ := ch.push (i := 2) (by omega) cv crow cgr cbl
 clear crow cgr cbl ce1 ce2 cr cu cc cf
 generalize World.setCell cw1 ⟨b, 2, none⟩ _ = W2 at cn1 cn2 ⊢
 have dh := cn1
 have dl : (G2.xs 3).length < 1000000000 := by have := hl 3 (by omega); simpa [cn4.xs, bn4.xs, an4.xs] using this
 obtain ⟨da, dcap, dv, _, _⟩ := dh.slice (i := 3) (by omega)
 have dr := dh.row_al (i := 3) (by omega) dv (.cells #[.int .i64 r] 3)
 have du : (Value.slice da (G2.xs 3).length dcap).ownBlock ≠ some b := dv ▸ (dh.d2 3 (by omega)).1
 have dc := dh.cells.2.2.2.1
 rw [dv] at dc
 have df := dh.frozen
 go_upto_region 5 with (at_builtin; go_must (refine list_append rfl (.tmp 45) (.tmp 47) 90 rfl 3 (.int .i64 0) 1 8 Try.underlying90 Try.info3 rfl (by decide) (.slice da (G2.xs 3).length dcap) (G2.xs 3).length (G2.xs 3) rfl dr ⟨W2.heap.size, 0, none⟩ 1 1 [.int .i64 r] rfl rfl (new_one W2 (.int .i64 r) 3) (by simp [Value.oneCell']) (by unfold maxLen; omega) (by omega) ?_); intro dv' dw1 drow dgr dbl; (obtain ⟨dg', dcap', rfl⟩ := ownsRow_succ drow); (obtain ⟨de1, de2⟩ := app_keep (al_ch W2 _) dgr du dc df))
 obtain ⟨G3, dn1, dn2, dn3, dn4⟩ := dh.push (i := 3) (by omega) dv drow dgr dbl
 clear drow dgr dbl de1 de2 dr du dc df
 generalize World.setCell dw1 ⟨b, 3, none⟩ _ = W3 at dn1 dn2 ⊢
 have eh := dn1
 have el : (G3.xs 4).length < 1000000000 := by have := hl 4 (by omega); simpa [dn4.xs, cn4.xs, bn4.xs, an4.xs] using this
 obtain ⟨ea, ecap, ev, _, _⟩ := eh.slice (i := 4) (by omega)
 have er := eh.row_al (i := 4) (by omega) ev (.cells #[.int .i64 (-1)] 3)
 have eu : (Value.slice ea (G3.xs 4).length ecap).ownBlock ≠ some b := ev ▸ (eh.d2 4 (by omega)).1
 have ec := eh.cells.2.2.2.2.1
 rw [ev] at ec
 have ef := eh.frozen
 go_upto_region 6 with (at_builtin; go_must (refine list_append rfl (.tmp 55) (.tmp 56) 90 rfl 3 (.int .i64 0) 1 8 Try.underlying90 Try.info3 rfl (by decide) (.slice ea (G3.xs 4).length ecap) (G3.xs 4).length (G3.xs 4) rfl er ⟨W3.heap.size, 0, none⟩ 1 1 [.int .i64 (-1)] rfl rfl (new_one W3 (.int .i64 (-1)) 3) (by simp [Value.oneCell']) (by unfold maxLen; omega) (by omega) ?_); intro ev' ew1 erow egr ebl; (obtain ⟨eg', ecap', rfl⟩ := ownsRow_succ erow); (obtain ⟨ee1, ee2⟩ := app_keep (al_ch W3 _) egr eu ec ef))
 obtain ⟨G4, en1, en2, en3, en4⟩ := eh.push (i := 4) (by omega) ev erow egr ebl
 clear erow egr ebl ee1 ee2 er eu ec ef
 generalize World.setCell ew1 ⟨b, 4, none⟩ _ = W4 at en1 en2 ⊢
 have fh := en1
 have hx0 : (G4.xs 0).length = (G.xs 0).length + 1 := by simp [en4.xs, dn4.xs, cn4.xs, bn4.xs, an4.xs]
 obtain ⟨fa, fcap, fv, _, _⟩ := fh.slice (i := 0) (by omega)
 have fc := fh.cells.1
 rw [fv, hx0] at fc
 go_wp2
 go_ret
 refine ⟨?_, G4, fh, ?_, ?_, fun i => ?_, ?_, ?_⟩
 ·rfl
 ·exact (((an2.two bn2 an3).two cn2 (an3.two bn3 an2.size)).two dn2 ((an3.two bn3 an2.size).two cn3 (an2.two bn2 an3).size)).two en2 (((an3.two bn3 an2.size).two cn3 (an2.two bn2 an3).size).two dn3 ((an2.two bn2 an3).two cn2 (an3.two bn3 an2.size)).size)
 ·exact (((an3.two bn3 an2.size).two cn3 (an2.two bn2 an3).size).two dn3 ((an2.two bn2 an3).two cn2 (an3.two bn3 an2.size)).size).two en3 (((an2.two bn2 an3).two cn2 (an3.two bn3 an2.size)).two dn2 ((an3.two bn3 an2.size).two cn3 (an2.two bn2 an3).size)).size
 ·rw [en4.xs]
  simp only [dn4.xs, cn4.xs, bn4.xs, an4.xs, PutX]
  by_cases e0 : i = 0 <;> by_cases e1 : i = 1 <;> by_cases e2 : i = 2 <;> by_cases e3 : i = 3 <;> by_cases e4 : i = 4 <;> simp_all
 ·rw [en4.tv, dn4.tv, cn4.tv, bn4.tv, an4.tv]
 ·rw [en4.rv, dn4.rv, cn4.rv, bn4.rv, an4.rv]
end Go.Proofs.Ytejciampbnfbhaa

namespace Go.Proofs.Ytejciampbnfbhaa
open Go.RowKit
def RowX (o : Value) (x : Int) (i : Nat) : List Value := if i = 5 then [o] else if i = 6 then [.int .i64 x] else []
theorem PutRow_any (w : World) (b : Nat) (G : Gg) (h : GM w b G) (hl : G.small 1000000000) (oa : Option Addr) (on oc : Nat) (x : Int) :
  Calls Try.prog 35 #[.pointer (some ⟨b, 0, none⟩), .slice oa on oc, .int .i64 x] w fun e w' => e = .returned (.int .i64 ((G.xs 5).length : Nat)) ∧ ∃ G', GM w' b G' ∧ Ch (G.own b) w w' ∧ More w (G.own b) (G'.own b) ∧ (∀ i, G'.xs i = G.xs i ++ RowX (.slice oa on oc) x i) ∧ G'.tv = G.tv ∧ G'.rv = G.rv := by
 have ah := h
 have hl0 : (G.xs 5).length < 1000000000 := hl 5 (by omega)
 have hw0 : IntKind.i64.wrap (((G.xs 5).length : Int) + 1 - 1) = ((G.xs 5).length : Int) := by rw [show ((G.xs 5).length : Int) + 1 - 1 = ((G.xs 5).length : Int) by omega]; exact IntWalk.i64_in _ (by omega)
 go_enter Try.func35, Try.ntmps35
 obtain ⟨aa, acap, av, _, _⟩ := ah.slice (i := 5) (by omega)
 have ar := ah.row_al (i := 5) (by omega) av (.cells #[.slice oa on oc] 46)
 have au : (Value.slice aa (G.xs 5).length acap).ownBlock ≠ some b := av ▸ (ah.d2 5 (by omega)).1
 have ac := ah.cells.2.2.2.2.2.1
 rw [av] at ac
 have af := ah.frozen
 go_upto_region 2 with (at_builtin; go_must (refine list_append rfl (.tmp 11) (.tmp 13) 89 rfl 46 (.slice none 0 0) 1 24 Try.underlying89 Try.infoStrs rfl (by decide) (.slice aa (G.xs 5).length acap) (G.xs 5).length (G.xs 5) rfl ar ⟨w.heap.size, 0, none⟩ 1 1 [.slice oa on oc] rfl rfl (new_one w (.slice oa on oc) 46) (by simp [Value.oneCell']) (by unfold maxLen; omega) (by omega) ?_); intro av' aw1 arow agr abl; (obtain ⟨ag', acap', rfl⟩ := ownsRow_succ arow); (obtain ⟨ae1, ae2⟩ := app_keep (al_ch w _) agr au ac af))
 obtain ⟨G0, an1, an2, an3, an4⟩ := ah.push (i := 5) (by omega) av arow agr abl
 clear arow agr abl ae1 ae2 ar au ac af
 generalize World.setCell aw1 ⟨b, 5, none⟩ _ = W0 at an1 an2 ⊢
 have bh := an1
 have bl : (G0.xs 6).length < 1000000000 := by have := hl 6 (by omega); simpa [an4.xs] using this
 obtain ⟨ba, bcap, bv, _, _⟩ := bh.slice (i := 6) (by omega)
 have br := bh.row_al (i := 6) (by omega) bv (.cells #[.int .i64 x] 3)
 have bu : (Value.slice ba (G0.xs 6).length bcap).ownBlock ≠ some b := bv ▸ (bh.d2 6 (by omega)).1
 have bc := bh.cells.2.2.2.2.2.2.1
 rw [bv] at bc
 have bf := bh.frozen
 go_upto_region 3 with (at_builtin; go_must (refine list_append rfl (.tmp 21) (.tmp 23) 90 rfl 3 (.int .i64 0) 1 8 Try.underlying90 Try.info3 rfl (by decide) (.slice ba (G0.xs 6).length bcap) (G0.xs 6).length (G0.xs 6) rfl br ⟨W0.heap.size, 0, none⟩ 1 1 [.int .i64 x] rfl rfl (new_one W0 (.int .i64 x) 3) (by simp [Value.oneCell']) (by unfold maxLen; omega) (by omega) ?_); intro bv' bw1 brow bgr bbl; (obtain ⟨bg', bcap', rfl⟩ := ownsRow_succ brow); (obtain ⟨be1, be2⟩ := app_keep (al_ch W0 _) bgr bu bc bf))
 obtain ⟨G1, bn1, bn2, bn3, bn4⟩ := bh.push (i := 6) (by omega) bv brow bgr bbl
 clear brow bgr bbl be1 be2 br bu bc bf
 generalize World.setCell bw1 ⟨b, 6, none⟩ _ = W1 at bn1 bn2 ⊢
 have fh := bn1
 have hx0 : (G1.xs 5).length = (G.xs 5).length + 1 := by simp [bn4.xs, an4.xs]
 obtain ⟨fa, fcap, fv, _, _⟩ := fh.slice (i := 5) (by omega)
 have fc := fh.cells.2.2.2.2.2.1
 rw [fv, hx0] at fc
 go_wp2
 go_ret
 refine ⟨?_, G1, fh, an2.two bn2 an3, an3.two bn3 an2.size, fun i => ?_, ?_, ?_⟩
 ·rfl
 ·rw [bn4.xs]
  simp only [an4.xs, RowX]
  by_cases e0 : i = 5 <;> by_cases e1 : i = 6 <;> simp_all
 ·rw [bn4.tv, an4.tv]
 ·rw [bn4.rv, an4.rv]
namespace Dg
def at? {α : Type} (l : List α) (i : Int) : Option α := if i < 0 then none else l[i.toNat]?
theorem at_some {α : Type} {l : List α} {i : Int} {x : α} (h : at? l i = some x) : ∃ n : Nat, i = (n : Int) ∧ l[n]? = some x := by
 unfold at? at h
 split at h
 ·cases h
 ·exact ⟨i.toNat, by omega, h⟩
def find : Nat → List Int → Int → Option Int
 | 0, _, _ => none
 | f + 1, l, n => (at? l n).bind fun x => if 0 ≤ x then find f l x else some n
end Dg
def ints (l : List Int) : List Value := l.map (Value.int .i64)
theorem ints_at {l : List Int} {n : Nat} {x : Int} (h : l[n]? = some x) : (ints l)[n]? = some (.int .i64 x) := by simp [ints, h]
theorem Find_any (w : World) (b : Nat) (G : Gg) (h : GM w b G) (l : List Int) (hx : G.xs 4 = ints l) (f : Nat) (n m : Int) (hf : Dg.find f l n = some m) :
  Calls Try.prog 57 #[.pointer (some ⟨b, 0, none⟩), .int .i64 n] w fun e w' => e = .returned (.int .i64 m) ∧ w' = w := by
 obtain ⟨a, cap, hv, _, _⟩ := h.slice (i := 4) (by omega)
 have c4 := h.cells.2.2.2.2.1
 rw [hv] at c4
 have hln : (G.xs 4).length = l.length := by rw [hx]; simp [ints]
 go_enter Try.func57, Try.ntmps57
 go_wp2
 go_loopg [1] f (fun k v1 wr => ∃ n : Int, v1 = .int .i64 n ∧ Dg.find k l n = some m ∧ wr = w)
 case atStart => exact ⟨n, rfl, hf, rfl⟩
 case round =>
  obtain ⟨n, rfl, hf, rfl⟩ := hrel
  cases gk with
  | zero => cases hf
  | succ k =>
   unfold Dg.find at hf; obtain ⟨x, h1, h2⟩ := Option.bind_eq_some_iff.1 hf; obtain ⟨i, rfl, hi⟩ := Dg.at_some h1; obtain ⟨g, cp, e1, e2, _, e4⟩ := h.at (i := 4) (j := i) (by omega) (u := .int .i64 x) (by rw [hx]; exact ints_at hi); rw [hv] at e1; cases e1; rw [hln] at c4 e4; have i1 : (0 : Int) ≤ i := by omega
   have i2 : (i : Int) < (l.length : Int) := by omega
   clear h hv hf h1 hi hx
   by_cases hx0 : 0 ≤ x
   ·rw [if_pos hx0] at h2
    replace h2 := hid h2
    go_wp2
    go_roundg k
    case measure => omega
    case rel => exact ⟨x, rfl, h2.out, rfl⟩
   ·rw [if_neg hx0] at h2
    obtain rfl := Option.some.inj h2; have hx1 : x < 0 := by omega
    go_wp2
    go_ret
    exact ⟨rfl, rfl⟩
end Go.Proofs.Ytejciampbnfbhaa
