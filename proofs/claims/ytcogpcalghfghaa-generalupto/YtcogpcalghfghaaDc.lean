/-
  The document's graph: Put.
-/
import Derived.Test.YtcogpcalghfghaaDb
set_option linter.unusedVariables false
set_option linter.unusedSimpArgs false
namespace Go.Proofs.Ytcogpcalghfghaa
open Go.RowKit

theorem Try.info9 : (Try.prog.info? 9).map (fun i => (i.zero, i.size, i.bytes)) = some (some (.string ⟨#[]⟩), 1, 16) := by kernel_rfl
theorem ownsRow_succ {w : World} {base : Nat} {e : TypeId} {size : Nat} {v : Value} {n : Nat} {xs : List Value} (h : w.ownsRow base e size v (n + 1) xs) : ∃ g cap, v = .slice (some ⟨g, 0, none⟩) (n + 1) cap := by
  rcases h.2 with ⟨_, h⟩ | ⟨g, cap, cur, rfl, _⟩
  · cases h
  · exact ⟨g, cap, rfl⟩
theorem al_ch (w : World) (o : Obj) : Ch (fun _ => False) w (w.alloc o) := (Ch.refl _ w).al o
theorem Ch.two {O O1 : Nat → Prop} {a b c : World} (h : Ch O a b) (k : Ch O1 b c) (hm : More a O O1) : Ch O a c := h.trans k hm
theorem More.two {a b : World} {O O1 O2 : Nat → Prop} (h : More a O O1) (k : More b O1 O2) (hs : a.heap.size ≤ b.heap.size) : More a O O2 := fun i hi => by
  rcases k i hi with e | e
  · exact h i e
  · exact .inr (by omega)

structure Pu (G G' : Gg) (i : Nat) (u : Value) : Prop where
  xs : ∀ j, G'.xs j = if j = i then G.xs i ++ [u] else G.xs j
  tv : G'.tv = G.tv
  rv : G'.rv = G.rv
theorem GM.push {w w1 : World} {b : Nat} {G : Gg} (h : GM w b G) {i : Nat} (hi : i < 7) {a : Option Addr} {cap : Nat} (hv : G.v i = .slice a (G.xs i).length cap) {o : Obj} {u v' : Value} (hrow : w1.ownsRow 0 (el i) 1 v' ((G.xs i).length + 1) (G.xs i ++ [u])) (hgrow : (w.alloc o).grownBy w1 (Value.slice a (G.xs i).length cap).ownBlock)
    (hblk : v'.ownBlock = (Value.slice a (G.xs i).length cap).ownBlock ∨ v'.ownBlock = some (w.alloc o).heap.size) : ∃ G', GM (w1.setCell ⟨b, i, none⟩ v') b G' ∧ Ch (G.own b) w (w1.setCell ⟨b, i, none⟩ v') ∧ More w (G.own b) (G'.own b) ∧ Pu G G' i u := by
  rw [← hv] at hgrow hblk
  obtain ⟨h1, h2, h3⟩ := h.app (i := i) hi (v' := v') (ys := G.xs i ++ [u]) (by simpa using hrow) (app_ch (al_ch w o) hgrow) (app_more (al_ch w o) hblk)
  exact ⟨_, h1, h2, h3, ⟨fun j => by simp only [Gg.setRow], rfl, rfl⟩⟩

/-- How long the rows are. -/
def Gg.small (G : Gg) (N : Nat) : Prop := ∀ i, i < 7 → (G.xs i).length < N
end Go.Proofs.Ytcogpcalghfghaa
