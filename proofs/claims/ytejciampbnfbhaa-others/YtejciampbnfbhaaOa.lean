import Derived.Test.YtejciampbnfbhaaRows
import Derived.WalkKit
import Derived.WalkSpells
import Derived.BigQuiet
import Derived.WalkSmall
import Derived.Deep.QuietTactic
import Derived.Deep.OwnRows
import Derived.IntWalk
import Derived.Maps.AppendAt
import Derived.Deep.RegionHeld3
import Derived.Deep.Cut
import Derived.BigRegion
import Derived.Deep.Slices
import Derived.RangeFuncBox
import Derived.Deep.RegionLaw
set_option linter.unusedVariables false
set_option linter.unusedSimpArgs false
namespace Go.Proofs.Ytejciampbnfbhaa
open Go.RowKit
structure Ch (O : Nat → Prop) (w w' : World) : Prop where
 size : w.heap.size ≤ w'.heap.size
 same : ∀ k, k < w.heap.size → ¬ O k → w'.heap[k]? = w.heap[k]?
 eo : w'.os = w.os ∧ w'.output = w.output
theorem Ch.refl (O : Nat → Prop) (w : World) : Ch O w w := ⟨Nat.le_refl _, fun _ _ _ => rfl, rfl, rfl⟩
theorem Ch.trans {O O1 : Nat → Prop} {a b c : World} (h : Ch O a b) (k : Ch O1 b c) (hs : ∀ i, O1 i → O i ∨ a.heap.size ≤ i) : Ch O a c :=
 ⟨Nat.le_trans h.size k.size, fun i hi ho => (k.same i (Nat.lt_of_lt_of_le hi h.size) (fun h1 => by rcases hs i h1 with h2 | h2; exact ho h2; omega)).trans (h.same i hi ho), k.eo.1.trans h.eo.1, k.eo.2.trans h.eo.2⟩
theorem Ch.mono {O O1 : Nat → Prop} {a b : World} (h : Ch O a b) (hs : ∀ i, O i → O1 i) : Ch O1 a b := ⟨h.size, fun i hi ho => h.same i hi (fun h2 => ho (hs i h2)), h.eo⟩
theorem Ch.alloc (O : Nat → Prop) (w : World) (o : Obj) : Ch O w (w.alloc o) :=
 ⟨by simp, fun k hk _ => Below.heap_alloc w o k hk, rfl, rfl⟩
theorem Ch.drew (O : Nat → Prop) (w : World) : Ch O w w.drew := ⟨Nat.le_refl _, fun _ _ _ => rfl, rfl, rfl⟩
theorem Ch.setCell {O : Nat → Prop} (w : World) (a : Addr) (v : Value) (hl : O a.block) : Ch O w (w.setCell a v) :=
 ⟨by show w.heap.size ≤ (w.heap.modify _ _).size; rw [Array.size_modify]; exact Nat.le_refl _, fun k _ ho => Below.heap_setCell w a v k (fun e => ho (e ▸ hl)), rfl, rfl⟩
theorem Ch.grown {O : Nat → Prop} {w w' : World} {r : Option Nat} (h : w.grownBy w' r) (hr : ∀ k, r = some k → O k) : Ch O w w' :=
 ⟨h.size, fun k hk ho => h.block k hk (fun e => ho (hr k e.symm)), h.os, h.output⟩
theorem Ch.cell {O : Nat → Prop} {w w' : World} (h : Ch O w w') {p : Addr} (hp : p.block < w.heap.size) (ho : ¬ O p.block) : w'.cell? p = w.cell? p := by
 unfold World.cell?; rw [h.same _ hp ho]
theorem Ch.frozen {O : Nat → Prop} {w w' : World} (h : Ch O w w') {p : Addr} (hp : p.block < w.heap.size) (ho : ¬ O p.block) : w'.frozen? p = w.frozen? p := by
 unfold World.frozen?; rw [h.same _ hp ho]
theorem ownsRow_lt {w : World} {base : Nat} {e : TypeId} {size : Nat} {v : Value} {n : Nat} {xs : List Value} (h : w.ownsRow base e size v n xs) {k : Nat} (hk : v.ownBlock = some k) : k < w.heap.size := by
 rcases h.2 with ⟨rfl, _⟩ | ⟨g, cap, cur, rfl, _, hg, _⟩
 ·cases hk
 ·cases hk; exact (Array.getElem?_eq_some_iff.1 hg).1
theorem ownsRow_keep {w w' : World} {base : Nat} {e : TypeId} {size : Nat} {v : Value} {n : Nat} {xs : List Value} (h : w.ownsRow base e size v n xs) (hs : ∀ k, v.ownBlock = some k → w'.heap[k]? = w.heap[k]?) : w'.ownsRow base e size v n xs := by
 rcases h with ⟨hl, ⟨rfl, hn⟩ | ⟨g, cap, cur, rfl, hb, hg, h1, h2, h3, h4⟩⟩
 ·exact ⟨hl, .inl ⟨rfl, hn⟩⟩
 ·exact ⟨hl, .inr ⟨g, cap, cur, rfl, hb, (hs g rfl).trans hg, h1, h2, h3, h4⟩⟩
def More (w : World) (D D' : Nat → Prop) : Prop := ∀ k, D' k → D k ∨ w.heap.size ≤ k
theorem blk_set {w : World} {b i : Nat} {cs : Array Value} {T : TypeId} {v : Value} (h : w.heap[b]? = some (.cells cs T (0, 0))) : (w.setCell ⟨b, i, none⟩ v).heap[b]? = some (.cells (cs.setIfInBounds i v) T (0, 0)) := by
 rw [setCell_eq_setRow w b i _ _ _ _ h]
 exact setRow_heap w b _ _ _ _ h
theorem blk_alloc {w : World} {b : Nat} {o x : Obj} (h : w.heap[b]? = some o) : (w.alloc x).heap[b]? = some o := (Below.heap_alloc _ _ _ (Array.getElem?_eq_some_iff.1 h).1).trans h
theorem Ch.set {O : Nat → Prop} {w w' : World} (h : Ch O w w') {a : Addr} (hl : O a.block) (v : Value) : Ch O w (w'.setCell a v) := h.trans (Ch.setCell w' a v hl) (fun _ h => .inl h)
theorem Ch.al {O : Nat → Prop} {w w' : World} (h : Ch O w w') (o : Obj) : Ch O w (w'.alloc o) := h.trans (Ch.alloc O w' o) (fun _ h => .inl h)
theorem Ch.dr {O : Nat → Prop} {w w' : World} (h : Ch O w w') : Ch O w w'.drew := h.trans (Ch.drew O w') (fun _ h => .inl h)
section
variable {P : Program} {ops : Array Oper} {rest : List Oper} {o : Oper} {a : Act} {w : World} {K : Act → World → Prop} {Q : Exit → Act → World → Prop}
theorem wp_append (s x : Operand) (t : TypeId) (hop : o.op = Op.call { callee := Callee.builtin Builtin.append, args := #[s, x], argTypes := #[t, t] }) (e : TypeId) (z : Value) (size bytes : Nat)
  (ht : P.underlying t = some (.slice e)) (hinfo : (P.info? e).map (fun i => (i.zero, i.size, i.bytes)) = some (some z, size, bytes)) (hzs : z.cells.size = size) (hsz : 0 < size)
  (v : Value) (n : Nat) (xs : List Value) (hs : a.eval s = v) (hown : w.ownsRow 0 e size v n xs) (ad : Addr) (m c : Nat) (news : List Value) (hx : a.eval x = .slice (some ad) m c) (hl : news.length = m * size) (hnews : ∀ j u, news[j]? = some u → w.cell? (ad.add j) = some u) (h1 : ∀ u ∈ news, u.oneCell' = true)
  (h63 : n + m ≤ maxLen) (hbytes : (n + m) * bytes ≤ 140737488355328)
  (hK : ∀ v' w', w'.ownsRow 0 e size v' (n + m) (xs ++ news) → w.grownBy w' v.ownBlock → (v'.ownBlock = v.ownBlock ∨ v'.ownBlock = some w.heap.size) → K (a.put o.dst v') w') : o.wp P a w K Q := by
 obtain ⟨i, hi, hzz⟩ := Option.map_eq_some_iff.1 hinfo
 simp only [Prod.mk.injEq] at hzz
 obtain ⟨hz, hs1, hb⟩ := hzz
 obtain ⟨v', w', hr, h1, h2, h3, h4⟩ := run_append_own_at (P := P) w 0 t o.type e i z size bytes ht hi hz hs1 hb hzs hsz v n xs hown ad m c news hl hnews h1 h63 hbytes (Nat.zero_le _)
 unfold Oper.wp execOp
 simp only [hop, resolve, invoke, builtin, Sem.run_bind, Sem.run_pure, Result.andThen_ok, List.map_toArray, List.map_cons, List.map_nil, hs, hx, hr]
 exact hK _ _ h1 h2 h4
theorem step_append {E : Prop} (hg : o.guard = none) (s x : Operand) (t : TypeId) (hop : o.op = Op.call { callee := Callee.builtin Builtin.append, args := #[s, x], argTypes := #[t, t] }) (e : TypeId) (z : Value) (size bytes : Nat)
  (ht : P.underlying t = some (.slice e)) (hinfo : (P.info? e).map (fun i => (i.zero, i.size, i.bytes)) = some (some z, size, bytes)) (hzs : z.cells.size = size) (hsz : 0 < size)
  (v : Value) (n : Nat) (xs : List Value) (hs : a.eval s = v) (hown : w.ownsRow 0 e size v n xs) (ad : Addr) (m c : Nat) (news : List Value) (hx : a.eval x = .slice (some ad) m c) (hl : news.length = m * size) (hnews : ∀ j u, news[j]? = some u → w.cell? (ad.add j) = some u) (h1 : ∀ u ∈ news, u.oneCell' = true)
  (h63 : n + m ≤ maxLen) (hbytes : (n + m) * bytes ≤ 140737488355328)
  (hK : ∀ v' w', w'.ownsRow 0 e size v' (n + m) (xs ++ news) → w.grownBy w' v.ownBlock → (v'.ownBlock = v.ownBlock ∨ v'.ownBlock = some w.heap.size) → K (a.put o.dst v') w') :
  if Region.wanted o (yielded ops a.tmps) = true then Oper.wp P o a w K Q else E := by
 have hw : Region.wanted o (yielded ops a.tmps) = true := by simp [Region.wanted, hg]
 rw [if_pos hw]
 exact wp_append s x t hop e z size bytes ht hinfo hzs hsz v n xs hs hown ad m c news hx hl hnews h1 h63 hbytes hK
theorem list_append (hgd : o.guard = none) (s x : Operand) (t : TypeId) (hop : o.op = Op.call { callee := Callee.builtin Builtin.append, args := #[s, x], argTypes := #[t, t] }) (e : TypeId) (z : Value) (size bytes : Nat)
  (ht : P.underlying t = some (.slice e)) (hinfo : (P.info? e).map (fun i => (i.zero, i.size, i.bytes)) = some (some z, size, bytes)) (hzs : z.cells.size = size) (hsz : 0 < size)
  (v : Value) (n : Nat) (xs : List Value) (hs : a.eval s = v) (hown : w.ownsRow 0 e size v n xs) (ad : Addr) (m c : Nat) (news : List Value) (hx : a.eval x = .slice (some ad) m c) (hl : news.length = m * size) (hnews : ∀ j u, news[j]? = some u → w.cell? (ad.add j) = some u) (h1 : ∀ u ∈ news, u.oneCell' = true)
  (h63 : n + m ≤ maxLen) (hbytes : (n + m) * bytes ≤ 140737488355328)
  (hK : ∀ v' w', w'.ownsRow 0 e size v' (n + m) (xs ++ news) → w.grownBy w' v.ownBlock → (v'.ownBlock = v.ownBlock ∨ v'.ownBlock = some w.heap.size) → wpList P ops Q rest (a.put o.dst v') w') :
  wpList P ops Q (o :: rest) a w :=
 wpList_plain hgd fun _ hK' => wp_append s x t hop e z size bytes ht hinfo hzs hsz v n xs hs hown ad m c news hx hl hnews h1 h63 hbytes fun v' w' h1 h2 h3 => hK' _ _ (hK v' w' h1 h2 h3)
end
theorem row_slice {w : World} {base : Nat} {e : TypeId} {size : Nat} {v : Value} {n : Nat} {xs : List Value} (h : w.ownsRow base e size v n xs) : ∃ a cap, v = .slice a n cap ∧ (n = 0 ∨ ∃ g, a = some ⟨g, 0, none⟩) ∧ n ≤ cap := by
 rcases h.2 with ⟨rfl, rfl⟩ | ⟨g, cap, cur, rfl, _, _, h, _⟩
 ·exact ⟨none, 0, rfl, .inl rfl, Nat.le_refl _⟩
 ·exact ⟨_, cap, rfl, .inr ⟨g, rfl⟩, h⟩
theorem row_cell {w : World} {base : Nat} {e : TypeId} {size : Nat} {g n cap : Nat} {xs : List Value} (h : w.ownsRow base e size (.slice (some ⟨g, 0, none⟩) n cap) n xs) (j : Nat) (u : Value) (hj : xs[j]? = some u) : w.cell? ⟨g, j, none⟩ = some u := by
 rcases h.2 with ⟨h1, _⟩ | ⟨g', cap', cur, h1, _, hg, h2, h3, h4, h5⟩
 ·cases h1
 ·cases h1
  have hlt := (List.getElem?_eq_some_iff.1 hj).1
  rw [h.1] at hlt
  rw [← h5, List.getElem?_take_of_lt hlt] at hj
  simp only [World.cell?, hg]
  simpa using hj
theorem add_cell (g j : Nat) : (⟨g, 0, none⟩ : Addr).add j = ⟨g, j, none⟩ := by simp [Addr.add]; omega
theorem own_set {w : World} {base : Nat} {e : TypeId} {size g n cap : Nat} {xs : List Value} (h : w.ownsRow base e size (.slice (some ⟨g, 0, none⟩) n cap) n xs) (i : Nat) (u : Value) (hi : i < xs.length) : (w.setCell ⟨g, i, none⟩ u).ownsRow base e size (.slice (some ⟨g, 0, none⟩) n cap) n (xs.set i u) := by
 rcases h.2 with ⟨h1, _⟩ | ⟨g', cap', cur, h1, hb, hg, h2, h3, h4, h5⟩
 ·cases h1
 ·cases h1
  refine ⟨by rw [List.length_set]; exact h.1, .inr ⟨g, cap, cur.setIfInBounds i u, rfl, hb, blk_set hg, h2, h3, by rw [Array.size_setIfInBounds, h4], ?_⟩⟩
  rw [Array.toList_setIfInBounds, ← h5, List.take_set]
theorem own_frozen {w : World} {base : Nat} {e : TypeId} {size g n cap : Nat} {xs : List Value} (h : w.ownsRow base e size (.slice (some ⟨g, 0, none⟩) n cap) n xs) (i : Nat) : w.frozen? ⟨g, i, none⟩ = false := by
 rcases h.2 with ⟨h1, _⟩ | ⟨g', cap', cur, h1, hb, hg, h2, h3, h4, h5⟩
 ·cases h1
 ·cases h1
  simp [World.frozen?, hg]
theorem app_keep {W Wa w1 : World} {u z : Value} {g i : Nat} (ha : Ch (fun _ => False) W Wa) (hgrow : Wa.grownBy w1 u.ownBlock) (hu : u.ownBlock ≠ some g) (hc : W.cell? ⟨g, i, none⟩ = some z) (hf : ∀ i, W.frozen? ⟨g, i, none⟩ = false) : w1.cell? ⟨g, i, none⟩ = some z ∧ w1.frozen? ⟨g, i, none⟩ = false := by
 have hl : g < W.heap.size := block_lt_of_cell hc
 have h1 : w1.heap[g]? = W.heap[g]? := (hgrow.block g (Nat.lt_of_lt_of_le hl ha.size) (fun e => hu e.symm)).trans (ha.same g hl (fun h => h))
 refine ⟨?_, ?_⟩
 ·rw [← hc]; simp only [World.cell?, h1]
 ·rw [← hf i]; simp only [World.frozen?, h1]
theorem app_ch {W Wa w1 : World} {u : Value} (ha : Ch (fun _ => False) W Wa) (hgrow : Wa.grownBy w1 u.ownBlock) : Ch (fun k => u.ownBlock = some k) W w1 := (ha.mono (fun _ h => h.elim)).trans (Ch.grown hgrow (fun k hk => hk)) (fun k hk => .inl hk)
theorem app_more {W Wa : World} {u v' : Value} (ha : Ch (fun _ => False) W Wa) (hblk : v'.ownBlock = u.ownBlock ∨ v'.ownBlock = some Wa.heap.size) : ∀ k, v'.ownBlock = some k → u.ownBlock = some k ∨ W.heap.size ≤ k := by
 intro k hk
 rcases hblk with e | e
 ·exact .inl (e.symm.trans hk)
 ·rw [e] at hk; cases hk; exact .inr ha.size
theorem new_one (w : World) (v : Value) (T : TypeId) : ∀ j u, ([v] : List Value)[j]? = some u → (w.alloc (.cells #[v] T)).cell? ((⟨w.heap.size, 0, none⟩ : Addr).add j) = some u := by
 intro j u hj
 have hb := World.alloc_heap_new w (.cells #[v] T)
 rw [add_cell]
 simp only [World.cell?, hb]
 simpa using hj
end Go.Proofs.Ytejciampbnfbhaa
