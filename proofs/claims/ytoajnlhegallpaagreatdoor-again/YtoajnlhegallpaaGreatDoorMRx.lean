/-
  A tree in a variable that a loop writes; what the document's two makes.
  A row of trees that a call makes by append, in memory.
  What the document's reader of lists does: square.
  What the document's reader of handlers does: handle.
  What the document's reader of types does: typ, at every depth.
  What the document's Parse answers, for every text.
-/
import Derived.Test.YtoajnlhegallpaaGreatDoorMRef
import Derived.Test.YtoajnlhegallpaaGreatDoorMBa
import Derived.Deep.AppendLies
import Derived.BigRegion
import Derived.Deep.RegionLaw
set_option linter.unusedVariables false
set_option linter.unusedSimpArgs false
namespace Go.Proofs.YtoajnlhegallpaaGreatDoor
open Go.RowKit

theorem kids_newH {w1 w2 : World} {F : Nat → Prop} {ty : TypeId} (H : Nat) (hH : w1.heap.size = H) (l : List (Sy.Tr × Value)) (h0 : l ≠ []) (hF : F H) (hk : ∀ p ∈ l, Kids w1 F p.2 p.1.kids) (cs : Array Value) (hcs : cs = (rowCells l).toArray) (n : Nat) (hn : n = l.length)
  (hb : Below (w1.alloc (.cells cs ty)).heap.size (w1.alloc (.cells cs ty)) w2) : Kids w2 F (.slice (some ⟨H, 0, none⟩) n n) (l.map (·.1)) := by
 subst hH
 exact kids_new l h0 hF hk cs hcs n hn hb


open Go.RowKit

theorem Tryz.info36 : (Tryz.prog.info? 24).map (fun i => (i.zero, i.size, i.bytes)) = some (some (.agg #[.int .i64 0, .int .i64 0, .string ⟨#[]⟩, .int .i64 0, .slice none 0 0]), 5, 64) := by kernel_rfl

def Fo (lo : Nat) (v : Value) : Nat → Prop := fun g => lo ≤ g ∧ some g ≠ v.ownBlock
structure RowS (W : World) (lo : Nat) (v : Value) (ls : List (Sy.Tr × Value)) : Prop where
 own : W.ownsRow lo 24 5 v ls.length (rowCells ls)
 kids : ∀ p ∈ ls, Kids W (Fo lo v) p.2 p.1.kids

theorem RowS.nil (W : World) (lo : Nat) : RowS W lo (.slice none 0 0) [] := ⟨World.ownsRow_nil _ _ _ _, fun p hp => by simp at hp⟩
theorem RowS.kp {W W' : World} {lo b : Nat} {v : Value} {ls : List (Sy.Tr × Value)} (h : RowS W lo v ls) (hk : Kp b W W') (hb : b < lo) : RowS W' lo v ls := by
 refine ⟨h.own.kept hk ?_, fun p hp => (h.kids p hp).kpF hk (fun g hg => by have := hg.1; omega)⟩
 cases hv : v.ownBlock with
 | none => exact .inl rfl
 | some g =>
  right
  intro e
  have h1 := (h.own.lt g hv).1
  have h2 := Option.some.inj e
  omega
theorem RowS.past {W W' : World} {lo : Nat} {v : Value} {ls : List (Sy.Tr × Value)} (h : RowS W lo v ls) (hk : Below W.heap.size W W') : RowS W' lo v ls :=
 ⟨own_below' h.own hk, fun p hp => (h.kids p hp).pastF hk⟩
where
 own_below' {w w' : World} {base : Nat} {e : TypeId} {size : Nat} {v : Value} {n : Nat} {xs : List Value} (h : w.ownsRow base e size v n xs) (hb : Below w.heap.size w w') : w'.ownsRow base e size v n xs :=
  h.kept (row := none) ⟨hb.os, hb.tape, hb.output, hb.size, fun k hk _ => hb.block k hk⟩ (by cases hv : v.ownBlock <;> simp)
theorem RowS.alloc {W : World} {lo : Nat} {v : Value} {ls : List (Sy.Tr × Value)} (h : RowS W lo v ls) (o : Obj) : RowS (W.alloc o) lo v ls := h.past ((Below.refl _ _).alloc (Nat.le_refl _) o)
theorem RowS.heap {W W' : World} {lo : Nat} {v : Value} {ls : List (Sy.Tr × Value)} (h : RowS W lo v ls) (_ : W'.heap.size = W.heap.size) (hw : ∀ g, lo ≤ g → W'.heap[g]? = W.heap[g]?) : RowS W' lo v ls := by
 refine ⟨⟨h.own.1, ?_⟩, fun p hp => (h.kids p hp).carry (fun g hg _ => hw g hg.1) (fun _ hg _ => hg)⟩
 rcases h.own.2 with h1 | ⟨g, cap, cur, h1, h2, h3, h4⟩
 ·exact .inl h1
 ·exact .inr ⟨g, cap, cur, h1, h2, by rw [hw g h2]; exact h3, h4⟩

theorem node_one (T : Sy.Tr) (a : Option Addr) (l c : Nat) : ∀ u ∈ nodeCells T (.slice a l c), u.oneCell' = true := by
 intro u hu
 simp [nodeCells] at hu
 rcases hu with rfl | rfl | rfl | rfl | rfl <;> rfl
theorem node_news {w : World} {T : Sy.Tr} {a : Option Addr} {l c : Nat} {H : Nat} {ty : TypeId} (hH : w.heap.size = H) :
  ∀ j u, (nodeCells T (.slice a l c))[j]? = some u → (w.alloc (.cells #[.int .i64 T.kind, .int .i64 T.pos, .string ⟨T.name.toArray⟩, .int .i64 T.num, .slice a l c] ty)).cell? ((⟨H, 0, none⟩ : Addr).add j) = some u := by
 subst hH
 intro j u hj
 have h := (Blk.new w (nodeCells T (.slice a l c)) ty j u hj).1
 have e : (⟨w.heap.size, 0, none⟩ : Addr).add j = ⟨w.heap.size, j, none⟩ := by unfold Addr.add; split <;> simp_all
 rw [e]
 exact h

theorem RowS.app {W W' : World} {lo g cap : Nat} {v : Value} {ls : List (Sy.Tr × Value)} {T : Sy.Tr} {kv : Value} (h : RowS W lo v ls)
  (ho : W'.ownsRow lo 24 5 (.slice (some ⟨g, 0, none⟩) (ls.length + 1) cap) (ls.length + 1) (rowCells ls ++ nodeCells T kv)) (hg : W.grownBy W' v.ownBlock) (hat : v.ownBlock = some g ∨ g = W.heap.size)
  (hk : Kids W (Fo lo v) kv T.kids) : RowS W' lo (.slice (some ⟨g, 0, none⟩) (ls.length + 1) cap) (ls ++ [(T, kv)]) := by
 have hF : ∀ x, Fo lo v x → x < W.heap.size → Fo lo (.slice (some ⟨g, 0, none⟩) (ls.length + 1) cap) x := by
  intro x hx hlt
  refine ⟨hx.1, ?_⟩
  intro e
  have e2 : x = g := by simpa [Value.ownBlock] using e
  subst e2
  rcases hat with h1 | h1
  ·exact hx.2 h1.symm
  ·omega
 refine ⟨?_, ?_⟩
 ·have e1 : rowCells (ls ++ [(T, kv)]) = rowCells ls ++ nodeCells T kv := by simp [rowCells]
  have e2 : (ls ++ [(T, kv)]).length = ls.length + 1 := by simp
  rw [e1, e2]
  exact ho
 ·intro p hp
  rcases List.mem_append.1 hp with hp | hp
  ·exact (h.kids p hp).carry (fun x hx hlt => hg.block x hlt hx.2) hF
  ·simp only [List.mem_singleton] at hp
   subst hp
   exact hk.carry (fun x hx hlt => hg.block x hlt hx.2) hF

open Go.RowKit

theorem Kids.empty {W W' : World} {F F' : Nat → Prop} {v : Value} {l : List Sy.Tr} (h : Kids W F v l) (hl : l = []) : Kids W' F' v l := by
 cases h with
 | nil => exact .nil
 | row g c kids ks hg h0 => exact absurd hl h0

theorem rowS_cells {W : World} {lo g n cap : Nat} {ls : List (Sy.Tr × Value)} (h : RowS W lo (.slice (some ⟨g, 0, none⟩) n cap) ls) (i : Nat) (hi : i < ls.length) : NodeAt W g (i * 5) ls[i].1 ls[i].2 := by
 have hc : ∀ j, j < 5 → W.cell? ⟨g, i * 5 + j, none⟩ = (nodeCells ls[i].1 ls[i].2)[j]? := fun j hj => by
  have h1 := rowCells_get ls i j hi hj
  have h2 : j < (nodeCells ls[i].1 ls[i].2).length := hj
  rw [List.getElem?_eq_getElem h2] at h1 ⊢
  have h3 := h.own.cells (g := g) rfl _ _ h1
  have e : (⟨g, 0, none⟩ : Addr).add (i * 5 + j) = ⟨g, i * 5 + j, none⟩ := by unfold Addr.add; split <;> simp_all
  rw [e] at h3
  exact h3
 exact ⟨hc 0 (by omega), hc 1 (by omega), hc 2 (by omega), hc 3 (by omega), hc 4 (by omega)⟩
theorem len_bytes {n N : Nat} (h : n < N) (hN : N ≤ 100000) : n + 1 ≤ maxLen ∧ (n + 1) * 64 ≤ 140737488355328 := by
 unfold maxLen
 omega


open Go.RowKit

theorem rowS_lit {W : World} {lo : Nat} (ls : List (Sy.Tr × Value)) (_ : ls ≠ []) (H : Nat) (hH : W.heap.size = H) (cs : Array Value) (hcs : cs = (rowCells ls).toArray) (n : Nat) (hn : n = ls.length) (hm : n ≤ 1000) (hlo : lo ≤ H) (hk : ∀ p ∈ ls, Kids W (fun g => lo ≤ g) p.2 p.1.kids) :
  RowS (W.alloc (.cells cs 24)) lo (.slice (some ⟨H, 0, none⟩) n n) ls := by
 subst hH hcs hn
 refine ⟨⟨by rw [rowCells_len], .inr ⟨W.heap.size, ls.length, (rowCells ls).toArray, rfl, hlo, heap_alloc_new W _, Nat.le_refl _, by unfold maxLen; omega, by simp [rowCells_len], by simp [← rowCells_len]⟩⟩, ?_⟩
 intro p hp
 refine ((hk p hp).weak (fun g hg hlt => ⟨hg, ?_⟩)).pastF ((Below.refl _ _).alloc (Nat.le_refl _) _)
 intro e
 have e2 : g = W.heap.size := by simpa [Value.ownBlock] using e
 omega
theorem RowS.form {W : World} {lo : Nat} {v : Value} {ls : List (Sy.Tr × Value)} (h : RowS W lo v ls) (h0 : ls ≠ []) : ∃ g cap, v = .slice (some ⟨g, 0, none⟩) ls.length cap := by
 rcases h.own.2 with ⟨_, h1⟩ | ⟨g, cap, cur, h1, _⟩
 ·exact absurd (List.length_eq_zero_iff.1 h1) h0
 ·exact ⟨g, cap, h1⟩
theorem RowS.kidsOf {W : World} {lo g n cap : Nat} {ls : List (Sy.Tr × Value)} (h : RowS W lo (.slice (some ⟨g, 0, none⟩) n cap) ls) (h0 : ls ≠ []) (hn : n = ls.length) : Kids W (fun q => lo ≤ q) (.slice (some ⟨g, 0, none⟩) n cap) (ls.map (·.1)) := by
 subst hn
 have hcap : ls.length ≤ cap := by
  rcases h.own.2 with ⟨h1, _⟩ | ⟨g', cap', cur, h1, _, _, h4, _⟩
  ·cases h1
  ·simp only [Value.slice.injEq] at h1
   omega
 refine kids_lit ls (h.own.lt g rfl).1 h0 hcap ?_ (fun p hp => (h.kids p hp).weak (fun q hq _ => hq.1))
 intro j v hj
 have h3 := h.own.cells (g := g) rfl _ _ hj
 have e : (⟨g, 0, none⟩ : Addr).add j = ⟨g, j, none⟩ := by unfold Addr.add; split <;> simp_all
 rw [e] at h3
 exact h3


open Go.RowKit

theorem rowCells_one {W : World} {F : Nat → Prop} {ls : List (Sy.Tr × Value)} (h : ∀ p ∈ ls, Kids W F p.2 p.1.kids) : ∀ u ∈ rowCells ls, u.oneCell' = true := by
 intro u hu
 unfold rowCells at hu
 obtain ⟨p, hp, hu⟩ := List.mem_flatMap.1 hu
 obtain ⟨a, c, e⟩ := (h p hp).slice
 rw [e] at hu
 exact node_one _ _ _ _ u hu
theorem RowS.news {W : World} {lo g n cap : Nat} {ls : List (Sy.Tr × Value)} (h : RowS W lo (.slice (some ⟨g, 0, none⟩) n cap) ls) : ∀ j u, (rowCells ls)[j]? = some u → W.cell? ((⟨g, 0, none⟩ : Addr).add j) = some u := fun j u hu => h.own.cells rfl j u hu

open Go.RowKit

theorem toksF_len : ∀ (f pos : Nat) (l : List UInt8), (Lx.toksF f pos l).1.length ≤ l.length := by
 intro f
 induction f with
 | zero => intro pos l; simp [Lx.toksF]
 | succ f ih =>
  intro pos l
  cases l with
  | nil => simp [Lx.toksF]
  | cons c r =>
   simp only [Lx.toksF]
   split
   ·exact Nat.le_trans (ih _ _) (by simp)
   ·split
    ·rename_i h3
     have h4 := Lx.dropWhile_len c r h3
     exact Nat.le_trans (ih _ _) (by simp only [List.length_cons]; omega)
    ·cases hT : Lx.tokAt pos (c :: r) with
     | error e => simp
     | ok x =>
      obtain ⟨t, n⟩ := x
      have hp := Lx.tokAt_pos hT
      have h5 := ih (pos + n) ((c :: r).drop n)
      simp only [Lx.tcons, List.length_cons, List.length_drop] at h5 hp ⊢
      omega

def envOf (s : ByteArray) : Sy.Env := ⟨(Lx.toks s.size 0 s.data.toList).2, s.size⟩
def PRes (w : World) (x : Sy.Tr × (Nat × Nat)) (en : Ending) (w' : World) : Prop :=
 ∃ a l c, en = .returned (.tuple #[.agg #[.int .i64 x.1.kind, .int .i64 x.1.pos, .string ⟨x.1.name.toArray⟩, .int .i64 x.1.num, .slice a l c], .agg #[.int .i64 x.2.1, .int .i64 x.2.2]]) ∧
  Hid (Kids w' (fun g => w.heap.size ≤ g) (.slice a l c) x.1.kids) ∧ Hid (Below w.heap.size w w')

theorem Kp.belowOf {b : Nat} {w W W' : World} (h : Below w.heap.size w W) (hk : Kp b W W') (hb : w.heap.size ≤ b) : Below w.heap.size w W' :=
 ⟨hk.os.trans h.os, hk.tape.trans h.tape, hk.output.trans h.output, Nat.le_trans h.size hk.size, fun i hi => (hk.block i (Nat.lt_of_lt_of_le hi h.size) (fun e => by have := Option.some.inj e; omega)).trans (h.block i hi)⟩

end Go.Proofs.YtoajnlhegallpaaGreatDoor
