import Derived.WalkKit
import Derived.Test.YtejciampbnfbhaaMHd
import Derived.Sort.Walk0
set_option linter.unusedVariables false
set_option linter.unusedSimpArgs false
set_option maxRecDepth 100000
set_option maxHeartbeats 4000000
namespace Go.Proofs.Ytejciampbnfbhaa
namespace Ty
inductive P where
 | var (n : Nat)
 | int
 | bool
 | unit
 | list (a : P)
 | pair (a b : P)
 | fn (a b : P) (ops : List (List UInt8)) (row : Nat)
def P.kind : P → Nat
 | .var _ => 0
 | .int => 1
 | .bool => 2
 | .unit => 3
 | .list _ => 4
 | .pair _ _ => 5
 | .fn _ _ _ _ => 6
def P.num : P → Nat
 | .var n => n
 | _ => 0
def P.row : P → Nat
 | .fn _ _ _ r => r
 | _ => 0
def P.ops : P → List (List UInt8)
 | .fn _ _ o _ => o
 | _ => []
def P.parts : P → Nat
 | .list a => 1 + a.parts
 | .pair a b => 1 + a.parts + b.parts
 | .fn a b o _ => 1 + o.length + a.parts + b.parts
 | _ => 1
def inOrder : List (List UInt8) → Prop
 | x :: y :: r => ¬ y < x ∧ inOrder (y :: r)
 | _ => True
def P.ok : P → Prop
 | .var n => 1 ≤ n ∧ n ≤ 1000000000
 | .list a => a.ok
 | .pair a b => a.ok ∧ b.ok
 | .fn a b o r => a.ok ∧ b.ok ∧ r ≤ 1000000000 ∧ (∀ x ∈ o, x ≠ []) ∧ inOrder o
 | _ => True
end Ty
end Go.Proofs.Ytejciampbnfbhaa

namespace Go.Proofs.Ytejciampbnfbhaa
namespace Un
abbrev Nm := List UInt8
def ins (s : Nm) : List Nm → List Nm
 | [] => [s]
 | x :: r => if x ≤ s then x :: ins s r else s :: x :: r
theorem ins_length (s : Nm) : ∀ (l : List Nm), (ins s l).length = l.length + 1 := by
 intro l
 induction l with
 | nil => rfl
 | cons x r ih =>
  unfold ins
  split
  ·simp [ih]
  ·rfl
def joinB (a b : List Nm) : List Nm := b.foldl (fun l s => ins s l) a
theorem joinB_length : ∀ (b a : List Nm), (joinB a b).length = a.length + b.length := by
 intro b
 induction b with
 | nil => intro a; rfl
 | cons s b ih =>
  intro a
  have := ih (ins s a)
  unfold joinB at this ⊢
  rw [List.foldl_cons, this, ins_length, List.length_cons]
  omega
def less : List Nm → List Nm → List Nm
 | [], _ => []
 | x :: r, b => if x ∈ b then less r (b.erase x) else x :: less r b
end Un
end Go.Proofs.Ytejciampbnfbhaa

namespace Go.Proofs.Ytejciampbnfbhaa
open Go.RowKit
theorem at_plain (g k i : Nat) : (⟨g, k, none⟩ : Addr).add i = ⟨g, k + i, none⟩ := by simp [Addr.add]
abbrev str (s : List UInt8) : Value := .string ⟨s.toArray⟩
theorem run_leq (x s : List UInt8) (w : World) : Sem.run Try.prog (binOp BinOp.leq 9 (str x) (str s)) w = .ok (.bool (decide (x ≤ s))) w := by
 have h : (decide (x < s) || x == s) = decide (x ≤ s) := by
  by_cases e : x < s
  ·simp [e, List.le_of_lt e]
  ·by_cases e2 : x = s
   ·subst e2; simp [List.le_refl]
   ·have : ¬ x ≤ s := fun h => e (List.not_le.1 (fun h2 => e2 (List.le_antisymm h h2)))
    simp [e, e2, this]
 simp [str, binOp, run_underlying Try.underlying9, Op.stringOp, Proofs.bytesLess_eq, Lib.toList_data, h]
def strs (l : List (List UInt8)) : List Value := l.map str
def Tg9 (w : World) (g : Nat) : Prop := ∃ cs fz, w.heap[g]? = some (.cells cs 9 fz)
theorem Tg9.lt {w : World} {g : Nat} (h : Tg9 w g) : g < w.heap.size := by
 obtain ⟨cs, fz, h⟩ := h
 exact (Array.getElem?_eq_some_iff.1 h).1
theorem Tg9.keep {w w' : World} {g : Nat} (h : Tg9 w g) (hs : w'.heap[g]? = w.heap[g]?) : Tg9 w' g := by
 obtain ⟨cs, fz, h⟩ := h
 exact ⟨cs, fz, hs.trans h⟩
def SV (w : World) (v : Value) (l : List (List UInt8)) : Prop := ∃ a c, v = .slice a l.length c ∧ ((a = none ∧ l = [] ∧ c = 0) ∨ ∃ g k, a = some ⟨g, k, none⟩ ∧ l.length ≤ c ∧ Tg9 w g ∧ ∀ i s, l[i]? = some s → w.cell? ⟨g, k + i, none⟩ = some (str s))
theorem SV.keep {w w' : World} {v : Value} {l : List (List UInt8)} (h : SV w v l) {O : Nat → Prop} (hc : Ch O w w') (ho : ∀ k, v.ownBlock = some k → ¬ O k) : SV w' v l := by
 obtain ⟨a, c, rfl, h | ⟨g, k, rfl, h1, h2, h3⟩⟩ := h
 ·exact ⟨a, c, rfl, .inl h⟩
 ·exact ⟨_, c, rfl, .inr ⟨g, k, rfl, h1, h2.keep (hc.same g h2.lt (ho g rfl)), fun i s hs => (hc.cell (p := ⟨g, k + i, none⟩) h2.lt (ho g rfl)).trans (h3 i s hs)⟩⟩
theorem SV.drop {w : World} {g k n c : Nat} {l : List (List UInt8)} (h : SV w (.slice (some ⟨g, k, none⟩) n c) l) (i : Nat) (hi : i ≤ n) : SV w (.slice (some ⟨g, k + i, none⟩) (n - i) (c - i)) (l.drop i) := by
 obtain ⟨a, c', e, h | ⟨g', k', rfl, h1, h2, h3⟩⟩ := h
 ·obtain ⟨rfl, _⟩ := h; cases e
 ·cases e
  refine ⟨_, c - i, by simp, .inr ⟨g, k + i, rfl, by simp; omega, h2, fun j s hj => ?_⟩⟩
  rw [List.getElem?_drop] at hj
  rw [Nat.add_assoc]
  exact h3 _ s hj
theorem SV.fin {w : World} {g k n c : Nat} {l : List (List UInt8)} (h : SV w (.slice (some ⟨g, k, none⟩) n c) l) : SV w (.slice (if c = n then some ⟨g, k, none⟩ else some ⟨g, k + n, none⟩) 0 (c - n)) (l.drop l.length) := by
 obtain ⟨a, c', e, h | ⟨g', k', rfl, h1, h2, h3⟩⟩ := h
 ·obtain ⟨rfl, _⟩ := h; cases e
 ·cases e
  rw [List.drop_length]
  split
  ·exact ⟨_, _, rfl, .inr ⟨g, k, rfl, Nat.zero_le _, h2, fun j s hj => by simp at hj⟩⟩
  ·exact ⟨_, _, rfl, .inr ⟨g, _, rfl, Nat.zero_le _, h2, fun j s hj => by simp at hj⟩⟩
theorem SV.of_row {w : World} {v : Value} {l : List (List UInt8)} (h : w.ownsRow 0 9 1 v l.length (strs l)) : SV w v l := by
 rcases h.2 with ⟨rfl, hn⟩ | ⟨g, cap, cur, rfl, hb, hg, h1, h2, h3, h4⟩
 ·have hl : l.length = 0 := hn
  exact ⟨none, 0, by rw [hl], .inl ⟨rfl, List.eq_nil_of_length_eq_zero hl, rfl⟩⟩
 ·exact ⟨_, cap, rfl, .inr ⟨g, 0, rfl, h1, ⟨_, _, hg⟩, fun i s hs => by rw [Nat.zero_add]; exact row_cell h i _ (by simp [strs, hs])⟩⟩
theorem run_append_sv {w : World} {v : Value} {n : Nat} {xs : List Value} (hown : w.ownsRow 0 9 1 v n xs) {u : Value} {l : List (List UInt8)} (hu : SV w u l) (hn : n + l.length < 4000000000) (ty : TypeId) :
  ∃ v' w', (Builtin.append_ #[46, 46] ty #[v, u]).run Try.prog w = .ok v' w' ∧ w'.ownsRow 0 9 1 v' (n + l.length) (xs ++ strs l) ∧ w.grownBy w' v.ownBlock ∧ (v'.ownBlock = v.ownBlock ∨ v'.ownBlock = some w.heap.size) := by
 obtain ⟨i, hi, hzz⟩ := Option.map_eq_some_iff.1 Try.info9
 simp only [Prod.mk.injEq] at hzz
 obtain ⟨hz, hs, hb⟩ := hzz
 obtain ⟨a, c, rfl, ⟨rfl, rfl, rfl⟩ | ⟨g, k, rfl, h1, h2, h3⟩⟩ := hu
 ·have hr := run_append_owned_none (P := Try.prog) (w := w) 0 46 ty 9 i 1 Try.underlying46 hi v n xs hown
  exact ⟨v, w, hr, by simpa [strs] using hown, World.grownBy.refl _ _, .inl rfl⟩
 ·obtain ⟨v', w', hr, h4, h5, h6, h7⟩ := run_append_own_at (P := Try.prog) w 0 46 ty 9 i _ 1 16 Try.underlying46 hi hz hs hb rfl (by decide) v n xs hown ⟨g, k, none⟩ l.length c (strs l) (by simp [strs]) (fun j u hj => by
   obtain ⟨s, hs, rfl⟩ : ∃ s, l[j]? = some s ∧ str s = u := by simpa [strs] using hj
   rw [at_plain]
   exact h3 j s hs) (fun u hu => by
   obtain ⟨s, _, rfl⟩ : ∃ s ∈ l, str s = u := by simpa [strs] using hu
   rfl) (by unfold maxLen; omega) (by omega) (Nat.zero_le _)
  exact ⟨v', w', hr, h4, h5, h7⟩
section
variable {ops : Array Oper} {rest : List Oper} {o : Oper} {a : Act} {w : World} {Q : Exit → Act → World → Prop}
theorem list_append_sv (hgd : o.guard = none) (s x : Operand) (hop : o.op = Op.call { callee := Callee.builtin Builtin.append, args := #[s, x], argTypes := #[46, 46] }) {v u : Value} {n : Nat} {xs : List Value} {l : List (List UInt8)} (hs : a.eval s = v) (hx : a.eval x = u) (hown : w.ownsRow 0 9 1 v n xs) (hu : SV w u l) (hn : n + l.length < 4000000000)
  (hK : ∀ v' w', w'.ownsRow 0 9 1 v' (n + l.length) (xs ++ strs l) → w.grownBy w' v.ownBlock → (v'.ownBlock = v.ownBlock ∨ v'.ownBlock = some w.heap.size) → wpList Try.prog ops Q rest (a.put o.dst v') w') :
  wpList Try.prog ops Q (o :: rest) a w :=
 wpList_plain hgd fun _ hK' => by
  obtain ⟨v', w', hr, h1, h2, h3⟩ := run_append_sv hown hu hn o.type
  unfold Oper.wp execOp
  simp only [hop, resolve, invoke, builtin, Sem.run_bind, Sem.run_pure, Result.andThen_ok, List.map_toArray, List.map_cons, List.map_nil, hs, hx, hr]
  exact hK' _ _ (hK v' w' h1 h2 h3)
end
def Fresh (w w' : World) (v : Value) (l : List (List UInt8)) : Prop := w'.ownsRow 0 9 1 v l.length (strs l) ∧ Ch (fun _ => False) w w' ∧ ∀ k, v.ownBlock = some k → w.heap.size ≤ k
theorem Fresh.nil (w : World) : Fresh w w (.slice none 0 0) [] := ⟨World.ownsRow_nil _ _ _ _, Ch.refl _ _, fun k h => by cases h⟩
theorem Fresh.quiet {w w' w2 : World} {v : Value} {l : List (List UInt8)} (h : Fresh w w' v l) (hc : Ch (fun _ => False) w' w2) : Fresh w w2 v l :=
 ⟨ownsRow_keep h.1 (fun k hk => hc.same k (ownsRow_lt h.1 hk) (fun h => h)), h.2.1.trans hc (fun _ h => h.elim), h.2.2⟩
theorem Fresh.more {w w' w1 : World} {v v' : Value} {l m : List (List UInt8)} (h : Fresh w w' v l) (hrow : w1.ownsRow 0 9 1 v' (l.length + m.length) (strs l ++ strs m)) (hgrow : w'.grownBy w1 v.ownBlock) (hblk : v'.ownBlock = v.ownBlock ∨ v'.ownBlock = some w'.heap.size) : Fresh w w1 v' (l ++ m) := by
 refine ⟨by simpa [strs] using hrow, h.2.1.trans (Ch.grown (O := fun k => v.ownBlock = some k) hgrow (fun k hk => hk)) (fun k hk => .inr (h.2.2 k hk)), fun k hk => ?_⟩
 rcases hblk with e | e
 ·exact h.2.2 k (e.symm.trans hk)
 ·rw [e] at hk; cases hk; exact h.2.1.size
theorem Fresh.sv {w w' : World} {v : Value} {l : List (List UInt8)} (h : Fresh w w' v l) : SV w' v l := SV.of_row h.1
theorem one_sv (w : World) (s : List UInt8) : SV (w.alloc (.cells #[str s] 9)) (.slice (some ⟨w.heap.size, 0, none⟩) 1 1) [s] := by
 refine ⟨_, 1, rfl, .inr ⟨w.heap.size, 0, rfl, Nat.le_refl _, ⟨_, _, World.alloc_heap_new w _⟩, fun i u hi => ?_⟩⟩
 have hb := World.alloc_heap_new w (.cells #[str s] 9)
 cases i with
 | zero =>
  obtain rfl : s = u := by simpa using hi
  simp only [World.cell?, hb]
  rfl
 | succ i => simp at hi
namespace Un
theorem ins_split (s : Nm) : ∀ (l : List Nm) (i : Nat), (∀ x ∈ l.take i, x ≤ s) → ins s l = l.take i ++ ins s (l.drop i)
 | [], _, _ => by simp
 | x :: r, 0, _ => by simp
 | x :: r, i + 1, h => by
  have hx : x ≤ s := h x (by simp)
  rw [show ins s (x :: r) = x :: ins s r by simp [ins, hx], ins_split s r i (fun y hy => h y (by simp [hy]))]
  simp
theorem ins_stop (s : Nm) {l : List Nm} (h : ∀ x, l[0]? = some x → ¬ x ≤ s) : ins s l = s :: l := by
 cases l with
 | nil => rfl
 | cons x r => simp [ins, h x rfl]
end Un
theorem put_any (w : World) (v : Value) (l : List (List UInt8)) (s : List UInt8) (hv : SV w v l) (hn : l.length < 1000000000) :
  Calls Try.prog 82 #[v, str s] w fun e w' => ∃ v', e = .returned v' ∧ Fresh w w' v' (Un.ins s l) := by
 obtain ⟨a, c, rfl, hcase⟩ := id hv
 go_enter Try.func82, Try.ntmps82
 go_wp2
 go_loopg [5, 6] (l.length + 1) (fun k v5 v6 wr => ∃ i : Nat, v6 = .int .i64 (i : Nat) ∧ i ≤ l.length ∧ k = l.length + 1 - i ∧ Fresh w wr v5 (l.take i) ∧ ∀ x ∈ l.take i, x ≤ s)
 case atStart => exact ⟨0, rfl, by omega, by omega, by simpa using Fresh.nil w, by simp⟩
 case round =>
  obtain ⟨i, rfl, hi, rfl, hF, hle⟩ := hrel
  have hvr := hv.keep hF.2.1 (fun _ _ h => h)
  by_cases e : i < l.length
  ·have i1 : (i : Int) < (l.length : Int) := by omega
   have i0 : (0 : Int) ≤ i := by omega
   obtain ⟨x, hx⟩ : ∃ x, l[i]? = some x := ⟨l[i], by simp⟩; obtain ⟨a', c', e1, h | ⟨g, k, rfl, h1, h2, h3⟩⟩ := id hvr
   ·obtain ⟨_, rfl, _⟩ := h; simp at e
   ·cases e1
    have hc := h3 i x hx; replace hx := hid hx; clear h3; have hlq := run_leq x s wr
    by_cases hxs : x ≤ s
    ·have hF2 := hF.quiet (al_ch wr (.cells #[str x] 9))
     have hwi : IntKind.i64.wrap ((i : Int) + 1) = (i : Int) + 1 := IntWalk.i64_in _ (by omega); have hlt : (l.take i).length = i := by simp; omega
     go_wp2_with (at_builtin; go_must (refine list_append_sv rfl (.tmp 19) (.tmp 24) rfl (l := [x]) rfl rfl hF2.1 (one_sv wr x) (by simp <;> omega) ?_); intro v' w1 hrow1 hgrow hblk)
     go_roundg (l.length - i)
     case measure => omega
     case rel =>
      refine ⟨i + 1, by simp, by omega, by omega, ?_, ?_⟩
      ·rw [show l.take (i + 1) = l.take i ++ [x] by rw [List.take_add_one, hx.out]; rfl]
       exact hF2.more hrow1 hgrow hblk
      ·intro y hy
       rw [show l.take (i + 1) = l.take i ++ [x] by rw [List.take_add_one, hx.out]; rfl] at hy
       rcases List.mem_append.1 hy with hy | hy
       ·exact hle y hy
       ·obtain rfl := List.mem_singleton.1 hy; exact hxs
    ·have hF2 := hF.quiet (al_ch wr (.cells #[str s] 9))
     have hlt : (l.take i).length = i := by simp; omega
     have hstop : ∀ y, (l.drop i)[0]? = some y → ¬ y ≤ s := fun y hy => by
      rw [List.getElem?_drop, Nat.add_zero, hx.out] at hy; cases hy; exact hxs
     replace hstop := hid hstop; replace hle := hid hle
     go_wp2_with (first
      | (at_builtin; have _g := hF2; clear _g; go_must (refine list_append_sv rfl (.tmp 28) (.tmp 30) rfl (l := [s]) rfl rfl hF2.1 (one_sv wr s) (by simp <;> omega) ?_); intro v' w1 hrow1 hgrow hblk; have hF3 := hF2.more hrow1 hgrow hblk; clear hrow1 hgrow hblk hF2; have hS3 := (hv.keep hF3.2.1 (fun _ _ h => h)).drop i hi)
      | (at_builtin; go_must (refine list_append_sv rfl (.tmp 32) (.tmp 35) rfl (l := l.drop i) rfl rfl hF3.1 hS3 (by simp <;> omega) ?_); intro v2 w2 hrow2 hgrow2 hblk2; have hF4 := hF3.more hrow2 hgrow2 hblk2; clear hrow2 hgrow2 hblk2))
     go_ret
     refine ⟨v2, by simp, ?_⟩; rw [Un.ins_split s l i hle.out, Un.ins_stop s (l := l.drop i) hstop.out]
     simpa using hF4
  ·have i1 : ¬ (i : Int) < (l.length : Int) := by omega
   obtain rfl : i = l.length := by omega
   have hF2 := hF.quiet (al_ch wr (.cells #[str s] 9)); have hlt : (l.take l.length).length = l.length := by simp
   have hstop : ∀ y, (l.drop l.length)[0]? = some y → ¬ y ≤ s := fun y hy => by simp at hy
   replace hstop := hid hstop; replace hle := hid hle
   rcases hcase with ⟨rfl, rfl, rfl⟩ | ⟨g, k, rfl, hlc, _, _⟩
   ·go_wp2_with (first
      | (at_builtin; have _g := hF2; clear _g; go_must (refine list_append_sv rfl (.tmp 28) (.tmp 30) rfl (l := [s]) rfl rfl hF2.1 (one_sv wr s) (by simp <;> omega) ?_); intro v' w1 hrow1 hgrow hblk; have hF3 := hF2.more hrow1 hgrow hblk; clear hrow1 hgrow hblk hF2; have hS3 := hv.keep hF3.2.1 (fun _ _ h => h))
      | (at_builtin; go_must (refine list_append_sv rfl (.tmp 32) (.tmp 35) rfl (l := []) rfl rfl hF3.1 hS3 (by simp <;> omega) ?_); intro v2 w2 hrow2 hgrow2 hblk2; have hF4 := hF3.more hrow2 hgrow2 hblk2; clear hrow2 hgrow2 hblk2))
    go_ret
    refine ⟨v2, by simp, ?_⟩; rw [Un.ins_split s [] 0 hle.out, Un.ins_stop s (l := List.drop 0 []) hstop.out]
    simpa using hF4
   ·go_wp2_with (first
      | (at_builtin; have _g := hF2; clear _g; go_must (refine list_append_sv rfl (.tmp 28) (.tmp 30) rfl (l := [s]) rfl rfl hF2.1 (one_sv wr s) (by simp <;> omega) ?_); intro v' w1 hrow1 hgrow hblk; have hF3 := hF2.more hrow1 hgrow hblk; clear hrow1 hgrow hblk hF2; have hS3 := (hv.keep hF3.2.1 (fun _ _ h => h)).fin)
      | (at_builtin; go_must (refine list_append_sv rfl (.tmp 32) (.tmp 35) rfl (l := l.drop l.length) rfl rfl hF3.1 hS3 (by simp <;> omega) ?_); intro v2 w2 hrow2 hgrow2 hblk2; have hF4 := hF3.more hrow2 hgrow2 hblk2; clear hrow2 hgrow2 hblk2))
    all_goals
     go_ret
     refine ⟨v2, by simp, ?_⟩; rw [Un.ins_split s l l.length hle.out, Un.ins_stop s (l := l.drop l.length) hstop.out]
     simpa using hF4
end Go.Proofs.Ytejciampbnfbhaa

namespace Go.Proofs.Ytejciampbnfbhaa
open Go.RowKit
theorem Try.info4 : (Try.prog.info? 4).map (fun i => (i.zero, i.size, i.bytes)) = some (some (.bool false), 1, 1) := by kernel_rfl
def setB (u : Nat → Bool) (k : Nat) : Nat → Bool := fun i => if i = k then true else u i
def bRow (inn : Nat → Bool) (n : Nat) : Array Value := Array.ofFn (n := n) fun i => .bool (inn i.1)
theorem bRow_all (inn : Nat → Bool) (n i : Nat) : (bRow inn n)[i]? = if i < n then some (.bool (inn i)) else none := by
 unfold bRow
 by_cases h : i < n
 ·simp [h]
 ·simp [h]
theorem bRow_at (inn : Nat → Bool) {n i : Nat} (h : i < n) : (bRow inn n)[i]? = some (.bool (inn i)) := by rw [bRow_all, if_pos h]
theorem bRow_size (inn : Nat → Bool) (n : Nat) : (bRow inn n).size = n := by simp [bRow]
theorem bRow_set (inn : Nat → Bool) {n k : Nat} (hk : k < n) : (bRow inn n).setIfInBounds k (.bool true) = bRow (setB inn k) n := by
 apply Array.ext_getElem?
 intro i
 rw [Array.getElem?_setIfInBounds, bRow_all, bRow_all, bRow_size]
 by_cases e : k = i
 ·subst e
  simp [hk, setB]
 ·by_cases h : i < n
  ·simp [e, h, setB, Ne.symm e]
  ·simp [e, h]
theorem madeB (n : Nat) : madeCells (#[.bool false] : Array Value) n = bRow (fun _ => false) n := by
 apply Array.ext_getElem?
 intro i
 rw [bRow_all]
 by_cases h : i < n <;> simp [madeCells, h, Nat.mod_one]
namespace Un
def rem : List Nm → (Nat → Bool) → List Nm
 | [], _ => []
 | x :: r, u => if u 0 then rem r (fun i => u (i + 1)) else x :: rem r (fun i => u (i + 1))
theorem rem_none : ∀ (b : List Nm), rem b (fun _ => false) = b
 | [] => rfl
 | x :: r => by simp [rem, rem_none r]
theorem rem_mem {x : Nm} : ∀ {b : List Nm} {u : Nat → Bool}, x ∈ rem b u → ∃ j : Nat, b[j]? = some x ∧ u j = false
 | [], _, h => by cases h
 | y :: r, u, h => by
  unfold rem at h
  cases h0 : u 0 with
  | true =>
   rw [h0] at h; obtain ⟨j, h1, h2⟩ := rem_mem (b := r) h; exact ⟨j + 1, by simpa using h1, h2⟩
  | false =>
   rw [h0] at h; simp only [Bool.false_eq_true, if_false] at h
   rcases List.mem_cons.1 h with rfl | h
   ·exact ⟨0, by simp, h0⟩
   ·obtain ⟨j, h1, h2⟩ := rem_mem (b := r) h
    exact ⟨j + 1, by simpa using h1, h2⟩
theorem mem_rem {x : Nm} : ∀ {b : List Nm} {u : Nat → Bool} {j : Nat}, b[j]? = some x → u j = false → x ∈ rem b u
 | [], _, _, h, _ => by simp at h
 | y :: r, u, 0, h, h0 => by
  obtain rfl : y = x := by simpa using h
  simp [rem, h0]
 | y :: r, u, j + 1, h, h0 => by
  have := mem_rem (b := r) (u := fun i => u (i + 1)) (j := j) (by simpa using h) h0
  unfold rem
  split
  ·exact this
  ·exact List.mem_cons_of_mem _ this
theorem rem_erase {x : Nm} : ∀ {b : List Nm} {u : Nat → Bool} {j : Nat}, b[j]? = some x → u j = false → (∀ i, i < j → u i = false → b[i]? ≠ some x) → rem b (setB u j) = (rem b u).erase x
 | [], _, _, h, _, _ => by simp at h
 | y :: r, u, 0, h, h0, _ => by
  obtain rfl : y = x := by simpa using h
  have e1 : (fun i => setB u 0 (i + 1)) = fun i => u (i + 1) := by funext i; simp [setB]
  simp only [rem, e1, h0]
  simp [setB]
 | y :: r, u, j + 1, h, h0, hf => by
  have e1 : (fun i => setB u (j + 1) (i + 1)) = setB (fun i => u (i + 1)) j := by funext i; simp [setB]
  have ih := rem_erase (b := r) (u := fun i => u (i + 1)) (j := j) (x := x) (by simpa using h) h0 (fun i hi hu => by have := hf (i + 1) (by omega) hu; simpa using this)
  have e0 : setB u (j + 1) 0 = u 0 := by simp [setB]
  unfold rem
  rw [e0, e1]
  cases hu : u 0 with
  | true => simpa using ih
  | false =>
   have hne : y ≠ x := fun e => hf 0 (by omega) hu (by simp [e]); simp only [Bool.false_eq_true, if_false]; rw [List.erase_cons_tail (by simpa using hne), ih]
end Un
theorem Ch.dn {O : Nat → Prop} {w w' : World} (h : Ch O w w') (n : Nat) : Ch O w (w'.drewN n) := h.trans (O1 := fun _ => False) ⟨Nat.le_refl _, fun _ _ _ => rfl, rfl, rfl⟩ (fun _ h => h.elim)
theorem Fresh.other {w w' w2 : World} {v : Value} {l : List (List UInt8)} (h : Fresh w w' v l) {ub : Nat} (hc : Ch (fun k => k = ub) w' w2) (hu : w.heap.size ≤ ub) (hne : v.ownBlock ≠ some ub) : Fresh w w2 v l :=
 ⟨ownsRow_keep h.1 (fun k hk => hc.same k (ownsRow_lt h.1 hk) (fun e => hne (e ▸ hk))), h.2.1.trans hc (fun k hk => .inr (by omega)), h.2.2⟩
theorem SV.at {w : World} {g k n c : Nat} {l : List (List UInt8)} (h : SV w (.slice (some ⟨g, k, none⟩) n c) l) {i : Nat} {s : List UInt8} (hs : l[i]? = some s) : w.cell? ⟨g, k + i, none⟩ = some (str s) := by
 obtain ⟨a, c', e, h | ⟨g', k', rfl, h1, h2, h3⟩⟩ := h
 ·obtain ⟨rfl, _⟩ := h; cases e
 ·cases e; exact h3 i s hs
theorem SV.some {w : World} {a : Option Addr} {n c : Nat} {l : List (List UInt8)} (h : SV w (.slice a n c) l) (hl : 0 < l.length) : n = l.length ∧ ∃ g k, a = some ⟨g, k, none⟩ := by
 obtain ⟨a', c', e, h | ⟨g', k', rfl, h1, h2, h3⟩⟩ := h
 ·obtain ⟨_, rfl, _⟩ := h; simp at hl
 ·cases e; exact ⟨rfl, g', k', rfl⟩
structure LeM (w wr : World) (a b : List (List UInt8)) (i : Nat) (u : Nat → Bool) (v : Value) (pre : List (List UInt8)) : Prop where
 fr : Fresh w wr v pre
 bl : wr.heap[w.heap.size]? = some (.cells (bRow u b.length) 4 (0, 0))
 ne : v.ownBlock ≠ some w.heap.size
 go : pre ++ Un.less (a.drop i) (Un.rem b u) = Un.less a b
 le : pre.length ≤ i
theorem LeM.quiet {w wr w2 : World} {a b : List (List UInt8)} {i : Nat} {u : Nat → Bool} {v : Value} {pre : List (List UInt8)} (h : LeM w wr a b i u v pre) (hc : Ch (fun _ => False) wr w2) : LeM w w2 a b i u v pre :=
 ⟨h.fr.quiet hc, (hc.same _ (Array.getElem?_eq_some_iff.1 h.bl).1 (fun h => h)).trans h.bl, h.ne, h.go, h.le⟩
theorem dropNm_cons {a : List (List UInt8)} {i : Nat} {x : List UInt8} (h : a[i]? = some x) : a.drop i = x :: a.drop (i + 1) := by
 obtain ⟨h1, h2⟩ := List.getElem?_eq_some_iff.1 h
 rw [← h2]
 exact (List.drop_eq_getElem_cons h1)
theorem LeM.add {w wr w1 : World} {a b : List (List UInt8)} {i : Nat} {u : Nat → Bool} {v v' : Value} {pre : List (List UInt8)} {x : List UInt8} (h : LeM w wr a b i u v pre) (hx : a[i]? = some x) (hno : ∀ q, u q = false → b[q]? ≠ some x) (hrow : w1.ownsRow 0 9 1 v' (pre.length + 1) (strs pre ++ strs [x])) (hgrow : wr.grownBy w1 v.ownBlock) (hblk : v'.ownBlock = v.ownBlock ∨ v'.ownBlock = some wr.heap.size) : LeM w w1 a b (i + 1) u v' (pre ++ [x]) := by
 have hlt := (Array.getElem?_eq_some_iff.1 h.bl).1
 refine ⟨h.fr.more (m := [x]) hrow hgrow hblk, (hgrow.block _ hlt (fun e => h.ne e.symm)).trans h.bl, fun e => ?_, ?_, by simp; have := h.le; omega⟩
 ·rcases hblk with e2 | e2
  ·exact h.ne (e2.symm.trans e)
  ·rw [e2] at e
   have := Option.some.inj e; omega
 ·have := h.go
  rw [dropNm_cons hx] at this
  have hn : x ∉ Un.rem b u := fun hm => by
   obtain ⟨j, h1, h2⟩ := Un.rem_mem hm; exact hno j h2 h1
  simp only [Un.less, if_neg hn] at this
  simpa using this
theorem LeM.use {w wr : World} {a b : List (List UInt8)} {i q : Nat} {u : Nat → Bool} {v : Value} {pre : List (List UInt8)} {x : List UInt8} (h : LeM w wr a b i u v pre) (hx : a[i]? = some x) (hq : b[q]? = some x) (hu : u q = false) (hf : ∀ p, p < q → u p = false → b[p]? ≠ some x) : LeM w (wr.setCell ⟨w.heap.size, q, none⟩ (.bool true)) a b (i + 1) (setB u q) v pre := by
 have hql := (List.getElem?_eq_some_iff.1 hq).1
 refine ⟨h.fr.other (Ch.setCell wr ⟨w.heap.size, q, none⟩ _ rfl) (Nat.le_refl _) h.ne, ?_, h.ne, ?_, by have := h.le; omega⟩
 ·rw [blk_set h.bl, bRow_set u hql]
 ·have := h.go
  rw [dropNm_cons hx] at this
  simp only [Un.less, if_pos (Un.mem_rem hq hu)] at this
  rw [Un.rem_erase hq hu hf]
  exact this
def Found (b : List (List UInt8)) (u : Nat → Bool) (x : List UInt8) (q : Nat) : Prop := b[q]? = some x ∧ u q = false ∧ ∀ p, p < q → u p = false → b[p]? ≠ some x
theorem less_any (w : World) (va vb : Value) (a b : List (List UInt8)) (ha : SV w va a) (hb : SV w vb b) (hna : a.length < 1000000000) (hnb : b.length < 1000000000) :
  Calls Try.prog 93 #[va, vb] w fun e w' => ∃ v', e = .returned v' ∧ Fresh w w' v' (Un.less a b) := by
 obtain ⟨aa, ac, rfl, _⟩ := id ha
 obtain ⟨ba, bc, rfl, _⟩ := id hb
 obtain ⟨i4, hi4, hzz⟩ := Option.map_eq_some_iff.1 Try.info4
 simp only [Prod.mk.injEq] at hzz
 obtain ⟨hz4, hs4, hb4⟩ := hzz
 have hmk := run_make (P := Try.prog) w 127 4 i4 _ Try.underlying127 hi4 hz4 .i64 .i64 b.length b.length (by omega) (Int.le_refl _) (by rw [hb4]; omega) (by omega)
 rw [hs4] at hmk
 simp only [Int.toNat_natCast, Nat.mul_one] at hmk
 rw [show (Value.bool false).cells = #[.bool false] from rfl, madeB] at hmk
 clear hi4 hz4 hs4 hb4
 have hL0 : LeM w (w.alloc (.cells (bRow (fun _ => false) b.length) 4)) a b 0 (fun _ => false) (.slice none 0 0) [] :=
  ⟨(Fresh.nil w).quiet (al_ch w _), World.alloc_heap_new w _, by simp [Value.ownBlock], by simp [Un.rem_none], Nat.le_refl _⟩
 replace hL0 := hid hL0
 go_enter Try.func93, Try.ntmps93
 go_wp2
 clear hmk
 go_loopg [5, 7] (a.length + 1) (fun k v5 v7 wr => ∃ (i : Nat) (u : Nat → Bool) (pre : List (List UInt8)), v7 = .int .i64 (i : Nat) ∧ i ≤ a.length ∧ k = a.length + 1 - i ∧ LeM w wr a b i u v5 pre)
 case atStart => exact ⟨0, _, [], rfl, by omega, by omega, hL0.out⟩
 case round =>
  obtain ⟨i, u, pre, rfl, hi, rfl, hM⟩ := hrel
  clear hL0
  by_cases e : i < a.length
  ·have e1 : (i : Int) < (a.length : Int) := by omega
   obtain ⟨x, hx⟩ : ∃ x, a[i]? = some x := ⟨a[i], by simp⟩; replace hM := hid hM; replace hx := hid hx
   go_wp2
   rename World => wo
   go_loopg [8, 9] (b.length + 2) (fun k v8 v9 wj => ∃ j : Nat, v9 = .int .i64 (j : Nat) ∧ j ≤ b.length ∧ Ch (fun _ => False) wo wj ∧ ((v8 = .int .i64 (-1) ∧ k = b.length + 2 - j ∧ ∀ q, q < j → u q = false → b[q]? ≠ some x) ∨ ∃ q : Nat, v8 = .int .i64 (q : Nat) ∧ k = b.length + 1 - j ∧ Found b u x q))
   case atStart => exact ⟨0, rfl, by omega, Ch.refl _ _, .inl ⟨rfl, by omega, fun q hq => by omega⟩⟩
   case round =>
    obtain ⟨j, rfl, hj, hcj, hk⟩ := hrel; have hMj := hid (hM.out.quiet hcj); have hca := hid (ha.keep hMj.out.fr.2.1 (fun _ _ h => h)); have hcb := hid (hb.keep hMj.out.fr.2.1 (fun _ _ h => h)); obtain ⟨-, ga, ka, rfl⟩ := hca.out.some (by omega); have cx := hca.out.at hx.out; have i0 : (0 : Int) ≤ i := by omega
    have hwi : IntKind.i64.wrap ((i : Int) + 1) = (i : Int) + 1 := IntWalk.i64_in _ (by omega)
    rcases hk with ⟨rfl, rfl, hno⟩ | ⟨q, rfl, rfl, hfd⟩
    ·by_cases ej : j < b.length
     ·have ej1 : (j : Int) < (b.length : Int) := by omega
      have ej0 : (0 : Int) ≤ j := by omega
      have hwj : IntKind.i64.wrap ((j : Int) + 1) = (j : Int) + 1 := IntWalk.i64_in _ (by omega); obtain ⟨y, hy⟩ : ∃ y, b[j]? = some y := ⟨b[j], by simp⟩; obtain ⟨-, gb, kb, rfl⟩ := hcb.out.some (by omega); have cy := hcb.out.at hy; have cu : wo.cell? ⟨w.heap.size, j, none⟩ = some (.bool (u j)) := by unfold World.cell?; rw [hM.out.bl]; exact bRow_at u ej
      replace cu := (hcj.cell (p := ⟨w.heap.size, j, none⟩) (Array.getElem?_eq_some_iff.1 hM.out.bl).1 (fun h => h)).trans cu; replace hno := hid hno; replace hy := hid hy
      cases huj : u j with
      | true =>
       rw [huj] at cu; replace huj := hid huj
       go_upto_region 10 with (fail)
       go_quiet (fail)
       go_wp2
       go_roundg (b.length + 1 - j)
       case measure => omega
       case rel =>
        refine ⟨j + 1, by simp, by omega, ?_, .inl ⟨rfl, by omega, fun q hq hu => ?_⟩⟩
        ·exact hcj.dn _
        ·by_cases eq : q = j
         ·subst eq; rw [huj.out] at hu; cases hu
         ·exact hno.out q (by omega) hu
      | false =>
       rw [huj] at cu; replace huj := hid huj
       by_cases exy : y = x
       ·subst exy
        go_upto_region 10 with (fail)
        go_quiet (fail)
        go_wp2
        go_roundg (b.length - j)
        case measure => omega
        case rel => exact ⟨j + 1, by simp, by omega, hcj.dn _, .inr ⟨j, rfl, by omega, hy.out, huj.out, hno.out⟩⟩
       ·have exy2 : (y == x) = false := by simpa using exy
        go_upto_region 10 with (fail)
        go_quiet (fail)
        go_wp2
        go_roundg (b.length + 1 - j)
        case measure => omega
        case rel =>
         refine ⟨j + 1, by simp, by omega, hcj.dn _, .inl ⟨rfl, by omega, fun q hq hu => ?_⟩⟩
         by_cases eq : q = j
         ·subst eq; rw [hy.out]; exact fun e => exy (Option.some.inj e)
         ·exact hno.out q (by omega) hu
     ·have ej1 : ¬ (j : Int) < (b.length : Int) := by omega
      obtain rfl : j = b.length := by omega
      have hno2 : ∀ q, u q = false → b[q]? ≠ some x := fun q hu hq => hno q (List.getElem?_eq_some_iff.1 hq).1 hu hq; replace hno2 := hid hno2; clear hno; have hM2 := hid (hMj.out.quiet (al_ch wr (.cells #[str x] 9))); have hpl := hM2.out.le
      go_wp2_with (at_builtin; go_must (refine list_append_sv rfl (.tmp 48) (.tmp 53) rfl (l := [x]) rfl rfl hM2.out.fr.1 (one_sv wr x) (by simp <;> omega) ?_); intro v' w1 hrow1 hgrow hblk)
      go_roundg (a.length - i)
      case measure => omega
      case rel => exact ⟨i + 1, u, _, by simp, by omega, by omega, hM2.out.add hx.out hno2.out hrow1 hgrow hblk⟩
    ·have hql : q < b.length := (List.getElem?_eq_some_iff.1 hfd.1).1
     have q0 : ¬ ((q : Int) < 0) := by omega
     have q00 : (0 : Int) ≤ q := by omega
     have q1 : (q : Int) < (b.length : Int) := by omega
     have cu : wr.cell? ⟨w.heap.size, q, none⟩ = some (.bool (u q)) := by
      have := bRow_at u hql; simp only [World.cell?, hMj.out.bl]
      simpa using this
     have cf : wr.frozen? ⟨w.heap.size, q, none⟩ = false := by unfold World.frozen?; rw [hMj.out.bl]; simp
     replace hfd := hid hfd
     by_cases ej : j < b.length
     ·have ej1 : (j : Int) < (b.length : Int) := by omega
      go_wp2
      go_roundg (a.length - i)
      case measure => omega
      case rel => exact ⟨i + 1, setB u q, _, by simp, by omega, by omega, hMj.out.use hx.out hfd.out.1 hfd.out.2.1 hfd.out.2.2⟩
     ·have ej1 : ¬ (j : Int) < (b.length : Int) := by omega
      go_wp2
      go_roundg (a.length - i)
      case measure => omega
      case rel => exact ⟨i + 1, setB u q, _, by simp, by omega, by omega, hMj.out.use hx.out hfd.out.1 hfd.out.2.1 hfd.out.2.2⟩
  ·have e1 : ¬ (i : Int) < (a.length : Int) := by omega
   replace hM := hid hM
   go_wp2
   go_ret
   refine ⟨_, rfl, ?_⟩; have := hM.out.go; obtain rfl : i = a.length := by omega
   simp [Un.less] at this
   rw [← this]; exact hM.out.fr
end Go.Proofs.Ytejciampbnfbhaa

namespace Go.Proofs.Ytejciampbnfbhaa
open Go.RowKit
namespace Dg
structure D where
 kind : List Int
 a : List Int
 b : List Int
 row : List Int
 link : List Int
 ops : List (List Un.Nm)
 next : List Int
 tv : List (Int × Int)
 rv : List (Int × Int)
abbrev big : Nat := 1000000000
def D.small (d : D) : Prop := d.kind.length < big ∧ d.a.length < big ∧ d.b.length < big ∧ d.row.length < big ∧ d.link.length < big ∧ d.ops.length < big ∧ d.next.length < big
instance (d : D) : Decidable d.small := by unfold D.small; infer_instance
def D.put (d : D) (k a b r : Int) : D := { d with kind := d.kind ++ [k], a := d.a ++ [a], b := d.b ++ [b], row := d.row ++ [r], link := d.link ++ [-1] }
def D.putRow (d : D) (o : List Un.Nm) (x : Int) : D := { d with ops := d.ops ++ [o], next := d.next ++ [x] }
def D.lnk (d : D) (m : Nat) (n : Int) : D := { d with link := d.link.set m n }
def whole : Nat → D → Int → List Un.Nm → Option (List Un.Nm × Int)
 | 0, _, _, _ => none
 | f + 1, d, r, l => (at? d.ops r).bind fun o => if l.length + o.length < big then (at? d.next r).bind fun x => if x = -1 then some (Un.joinB l o, r) else if x = 0 then some (Un.joinB l o, 0) else whole f d x (Un.joinB l o) else none
def stands (d : D) (v : Int) (o : List Un.Nm) (x : Int) : Option D := if 0 ≤ v ∧ v < d.ops.length ∧ v < d.next.length then some { d with ops := d.ops.set v.toNat o, next := d.next.set v.toNat x } else none
def sameRow (f : Nat) (d : D) (r s : Int) : Option (Bool × D) :=
 (whole f d r []).bind fun p => (whole f d s []).bind fun q =>
  if p.1.length < big ∧ q.1.length < big then
   if p.2 = q.2 then some (decide ((Un.less p.1 q.1).length = 0) && decide ((Un.less q.1 p.1).length = 0), d)
   else if p.2 = 0 then (if 0 < (Un.less q.1 p.1).length then some (false, d) else (stands d q.2 (Un.less p.1 q.1) 0).map fun d => (true, d))
   else if q.2 = 0 then (if 0 < (Un.less p.1 q.1).length then some (false, d) else (stands d p.2 (Un.less q.1 p.1) 0).map fun d => (true, d))
   else if d.small then (stands (d.putRow [] (-1)) p.2 (Un.less q.1 p.1) d.ops.length).bind fun d2 => (stands d2 q.2 (Un.less p.1 q.1) d.ops.length).map fun d => (true, d)
   else none
  else none
def same (f : Nat) : Nat → D → Int → Int → Option (Bool × D)
 | 0, _, _, _ => none
 | k + 1, d, m, n => (find f d.link m).bind fun m => (find f d.link n).bind fun n =>
  if m = n then some (true, d) else
  (at? d.kind m).bind fun km => if km = 0 then some (true, d.lnk m.toNat n) else
  (at? d.kind n).bind fun kn => if kn = 0 then some (true, d.lnk n.toNat m) else
  if km ≠ kn then some (false, d) else
  (at? d.a m).bind fun am => (at? d.a n).bind fun an => (at? d.b m).bind fun bm => (at? d.b n).bind fun bn => (at? d.row m).bind fun rm => (at? d.row n).bind fun rn =>
  (if 0 ≤ am then same f k (d.lnk m.toNat n) am an else some (true, d.lnk m.toNat n)).bind fun p => if p.1 = false then some (false, p.2) else
  (if 0 ≤ bm then same f k p.2 bm bn else some (true, p.2)).bind fun q => if q.1 = false then some (false, q.2) else
  if km = 6 then sameRow f q.2 rm rn else some (true, q.2)
end Dg
structure GD (w : World) (b : Nat) (G : Gg) (d : Dg.D) : Prop where
 gm : GM w b G
 x0 : G.xs 0 = ints d.kind
 x1 : G.xs 1 = ints d.a
 x2 : G.xs 2 = ints d.b
 x3 : G.xs 3 = ints d.row
 x4 : G.xs 4 = ints d.link
 x6 : G.xs 6 = ints d.next
 ol : (G.xs 5).length = d.ops.length
 ov : ∀ (i : Nat) (o : List (List UInt8)), d.ops[i]? = some o → ∃ u, (G.xs 5)[i]? = some u ∧ SV w u o ∧ ∀ k, u.ownBlock = some k → ¬ G.own b k
 tv : G.tv = d.tv
 rv : G.rv = d.rv
theorem GD.apart {w w' : World} {b : Nat} {G : Gg} {d : Dg.D} {O : Nat → Prop} (h : GD w b G d) (hc : Ch O w w') (hd : ∀ k, G.own b k → ¬ O k) (hn : ∀ (i : Nat) u k, (G.xs 5)[i]? = some u → u.ownBlock = some k → ¬ O k) : GD w' b G d :=
 ⟨h.gm.apart hc hd, h.x0, h.x1, h.x2, h.x3, h.x4, h.x6, h.ol, fun i o ho => by
  obtain ⟨u, h1, h2, h3⟩ := h.ov i o ho
  exact ⟨u, h1, h2.keep hc (fun k hk => hn i u k h1 hk), h3⟩, h.tv, h.rv⟩
theorem GD.quiet {w w' : World} {b : Nat} {G : Gg} {d : Dg.D} (h : GD w b G d) (hc : Ch (fun _ => False) w w') : GD w' b G d := h.apart hc (fun _ _ h => h) (fun _ _ _ _ _ h => h)
theorem ints_len (l : List Int) : (ints l).length = l.length := by simp [ints]
theorem GD.small {w : World} {b : Nat} {G : Gg} {d : Dg.D} (h : GD w b G d) (hs : d.small) : G.small 1000000000 := by
 obtain ⟨h0, h1, h2, h3, h4, h5, h6⟩ := hs
 intro i hi
 have : i = 0 ∨ i = 1 ∨ i = 2 ∨ i = 3 ∨ i = 4 ∨ i = 5 ∨ i = 6 := by omega
 rcases this with rfl | rfl | rfl | rfl | rfl | rfl | rfl
 ·rw [h.x0, ints_len]; exact h0
 ·rw [h.x1, ints_len]; exact h1
 ·rw [h.x2, ints_len]; exact h2
 ·rw [h.x3, ints_len]; exact h3
 ·rw [h.x4, ints_len]; exact h4
 ·rw [h.ol]; exact h5
 ·rw [h.x6, ints_len]; exact h6
def GS (w : World) (b : Nat) (G : Gg) (w' : World) (d' : Dg.D) : Prop := ∃ G', GD w' b G' d' ∧ Ch (G.own b) w w' ∧ More w (G.own b) (G'.own b)
theorem GS.refl {w : World} {b : Nat} {G : Gg} {d : Dg.D} (h : GD w b G d) : GS w b G w d := ⟨G, h, Ch.refl _ _, fun _ h => .inl h⟩
theorem GS.quiet {w w1 w2 : World} {b : Nat} {G : Gg} {d : Dg.D} (h : GS w b G w1 d) (hc : Ch (fun _ => False) w1 w2) : GS w b G w2 d := by
 obtain ⟨G', h1, h2, h3⟩ := h
 exact ⟨G', h1.quiet hc, h2.trans hc (fun _ h => h.elim), h3⟩
theorem GS.after {w w1 w2 : World} {b : Nat} {G G1 : Gg} {d : Dg.D} (hc : Ch (G.own b) w w1) (hm : More w (G.own b) (G1.own b)) (h : GS w1 b G1 w2 d) : GS w b G w2 d := by
 obtain ⟨G2, h1, h2, h3⟩ := h
 exact ⟨G2, h1, hc.two h2 hm, hm.two h3 hc.size⟩
theorem apart_more {w : World} {O O' : Nat → Prop} (hm : More w O O') {u : Value} {l : List (List UInt8)} (hs : SV w u l) (ha : ∀ k, u.ownBlock = some k → ¬ O k) : ∀ k, u.ownBlock = some k → ¬ O' k := by
 intro k hk ho
 rcases hm k ho with h | h
 ·exact ha k hk h
 ·obtain ⟨a, c, rfl, ⟨rfl, _⟩ | ⟨g, q, rfl, _, hg, _⟩⟩ := hs
  ·cases hk
  ·cases hk
   have h2 : w.heap.size ≤ g := h; have h3 := hg.lt; omega
theorem ints_snoc (l : List Int) (x : Int) : ints l ++ [.int .i64 x] = ints (l ++ [x]) := by simp [ints]
theorem GD.Put {w : World} {b : Nat} {G : Gg} {d : Dg.D} (h : GD w b G d) (hs : d.small) (k a c r : Int) :
  Calls Try.prog 63 #[.pointer (some ⟨b, 0, none⟩), .int .i64 k, .int .i64 a, .int .i64 c, .int .i64 r] w fun e w' => e = .returned (.int .i64 (d.kind.length : Nat)) ∧ GS w b G w' (d.put k a c r) := by
 refine (Put_any w b G h.gm (h.small hs) k a c r).mono ?_
 rintro e w' ⟨rfl, G', h1, h2, h3, h4, h5, h6⟩
 refine ⟨by rw [h.x0, ints_len], G', ⟨h1, ?_, ?_, ?_, ?_, ?_, ?_, ?_, fun i o ho => ?_, h5.trans h.tv, h6.trans h.rv⟩, h2, h3⟩
 ·rw [h4, h.x0]; exact ints_snoc _ _
 ·rw [h4, h.x1]; exact ints_snoc _ _
 ·rw [h4, h.x2]; exact ints_snoc _ _
 ·rw [h4, h.x3]; exact ints_snoc _ _
 ·rw [h4, h.x4]; exact ints_snoc _ _
 ·rw [h4, h.x6]; simp [PutX, Dg.D.put]
 ·rw [h4]; simpa [PutX, Dg.D.put] using h.ol
 ·obtain ⟨u, u1, u2, u3⟩ := h.ov i o ho
  exact ⟨u, by rw [h4]; simpa [PutX] using u1, u2.keep h2 u3, apart_more h3 u2 u3⟩
theorem GD.PutRow {w : World} {b : Nat} {G : Gg} {d : Dg.D} (h : GD w b G d) (hs : d.small) {v : Value} {o : List (List UInt8)} (hv : SV w v o) (ha : ∀ k, v.ownBlock = some k → ¬ G.own b k) (x : Int) :
  Calls Try.prog 35 #[.pointer (some ⟨b, 0, none⟩), v, .int .i64 x] w fun e w' => e = .returned (.int .i64 (d.ops.length : Nat)) ∧ GS w b G w' (d.putRow o x) := by
 obtain ⟨va, vc, rfl, _⟩ := id hv
 refine (PutRow_any w b G h.gm (h.small hs) _ _ _ x).mono ?_
 rintro e w' ⟨rfl, G', h1, h2, h3, h4, h5, h6⟩
 refine ⟨by rw [h.ol], G', ⟨h1, ?_, ?_, ?_, ?_, ?_, ?_, ?_, fun i o' ho => ?_, h5.trans h.tv, h6.trans h.rv⟩, h2, h3⟩
 ·rw [h4, h.x0]; simp [RowX, Dg.D.putRow]
 ·rw [h4, h.x1]; simp [RowX, Dg.D.putRow]
 ·rw [h4, h.x2]; simp [RowX, Dg.D.putRow]
 ·rw [h4, h.x3]; simp [RowX, Dg.D.putRow]
 ·rw [h4, h.x4]; simp [RowX, Dg.D.putRow]
 ·rw [h4, h.x6]; exact ints_snoc _ _
 ·rw [h4]; simp [RowX, Dg.D.putRow, h.ol]
 ·by_cases e : i < d.ops.length
  ·have ho' : d.ops[i]? = some o' := by rwa [show (d.putRow o x).ops = d.ops ++ [o] from rfl, List.getElem?_append_left e] at ho
   obtain ⟨u, u1, u2, u3⟩ := h.ov i o' ho'; exact ⟨u, by rw [h4, List.getElem?_append_left (by rw [h.ol]; exact e)]; exact u1, u2.keep h2 u3, apart_more h3 u2 u3⟩
  ·rw [show (d.putRow o x).ops = d.ops ++ [o] from rfl, List.getElem?_append_right (by omega)] at ho
   have hi : i = d.ops.length := by
    have := (List.getElem?_eq_some_iff.1 ho).1
    simp at this
    omega
   subst hi; obtain rfl : o = o' := by simpa using ho
   exact ⟨_, by rw [h4, List.getElem?_append_right (by rw [h.ol]; exact Nat.le_refl _), h.ol]; simp [RowX], hv.keep h2 ha, apart_more h3 hv ha⟩
theorem SV.nil (w : World) : SV w (.slice none 0 0) [] := ⟨none, 0, rfl, .inl ⟨rfl, rfl, rfl⟩⟩
theorem GD.Var {w : World} {b : Nat} {G : Gg} {d : Dg.D} (h : GD w b G d) (hs : d.small) :
  Calls Try.prog 51 #[.pointer (some ⟨b, 0, none⟩)] w fun e w' => e = .returned (.int .i64 (d.kind.length : Nat)) ∧ GS w b G w' (d.put 0 (-1) (-1) 0) := by
 have HP := h.Put hs 0 (-1) (-1) 0
 go_enter Try.func51, Try.ntmps51
 go_wp2_with (go_at_call 63; refine HP.mono ?_; clear HP; rintro e w1 ⟨rfl, h1⟩)
 go_ret
 exact ⟨rfl, h1⟩
theorem GD.Open {w : World} {b : Nat} {G : Gg} {d : Dg.D} (h : GD w b G d) (hs : d.small) :
  Calls Try.prog 50 #[.pointer (some ⟨b, 0, none⟩)] w fun e w' => e = .returned (.int .i64 (d.ops.length : Nat)) ∧ GS w b G w' (d.putRow [] (-1)) := by
 have HP := h.PutRow hs (SV.nil w) (fun k hk => by cases hk) (-1)
 go_enter Try.func50, Try.ntmps50
 go_wp2_with (go_at_call 35; refine HP.mono ?_; clear HP; rintro e w1 ⟨rfl, h1⟩)
 go_ret
 exact ⟨rfl, h1⟩
theorem GD.Find {w : World} {b : Nat} {G : Gg} {d : Dg.D} (h : GD w b G d) {f : Nat} {n m : Int} (hf : Dg.find f d.link n = some m) :
  Calls Try.prog 57 #[.pointer (some ⟨b, 0, none⟩), .int .i64 n] w fun e w' => e = .returned (.int .i64 m) ∧ w' = w := Find_any w b G h.gm d.link h.x4 f n m hf
end Go.Proofs.Ytejciampbnfbhaa

namespace Go.Proofs.Ytejciampbnfbhaa
open Go.RowKit
theorem joinB_take {l o : List (List UInt8)} {i : Nat} {s : List UInt8} (h : o[i]? = some s) : Un.joinB l (o.take (i + 1)) = Un.ins s (Un.joinB l (o.take i)) := by
 rw [List.take_add_one, h]
 simp [Un.joinB]
theorem GD.rowAt {w : World} {b : Nat} {G : Gg} {d : Dg.D} (h : GD w b G d) {i : Nat} {o : List (List UInt8)} (ho : d.ops[i]? = some o) : ∃ g cap u, G.v 5 = .slice (some ⟨g, 0, none⟩) d.ops.length cap ∧ w.cell? ⟨g, i, none⟩ = some u ∧ w.frozen? ⟨g, i, none⟩ = false ∧ SV w u o ∧ i < d.ops.length ∧ ∀ k, u.ownBlock = some k → ¬ G.own b k := by
 obtain ⟨u, h1, h2, h3⟩ := h.ov i o ho
 obtain ⟨g, cap, e1, e2, e3, e4⟩ := h.gm.at (i := 5) (by omega) h1
 rw [h.ol] at e1 e4
 exact ⟨g, cap, u, e1, e2, e3, h2, e4, h3⟩
theorem GD.intAt {w : World} {b : Nat} {G : Gg} {l : List Int} (h : GM w b G) {j : Nat} (hj : j < 7) (hx : G.xs j = ints l) {i : Nat} {x : Int} (ho : l[i]? = some x) : ∃ g cap, G.v j = .slice (some ⟨g, 0, none⟩) l.length cap ∧ w.cell? ⟨g, i, none⟩ = some (.int .i64 x) ∧ w.frozen? ⟨g, i, none⟩ = false ∧ i < l.length := by
 obtain ⟨g, cap, e1, e2, e3, e4⟩ := h.at (i := j) (j := i) hj (u := .int .i64 x) (by rw [hx]; exact ints_at ho)
 rw [hx, ints_len] at e1 e4
 exact ⟨g, cap, e1, e2, e3, e4⟩
theorem GD.Whole {w : World} {b : Nat} {G : Gg} {d : Dg.D} (h : GD w b G d) {f : Nat} {r v : Int} {l : List (List UInt8)} (hf : Dg.whole f d r [] = some (l, v)) :
  Calls Try.prog 59 #[.pointer (some ⟨b, 0, none⟩), .int .i64 r] w fun e w' => ∃ u, e = .returned (.tuple #[u, .int .i64 v]) ∧ Fresh w w' u l := by
 replace h := hid h
 go_enter Try.func59, Try.ntmps59
 go_wp2
 go_loopg [1, 6] f (fun k v1 v6 wr => ∃ (r : Int) (l0 : List (List UInt8)), v1 = .int .i64 r ∧ Dg.whole k d r l0 = some (l, v) ∧ Fresh w wr v6 l0)
 case atStart => exact ⟨r, [], rfl, hf, Fresh.nil w⟩
 case round =>
  obtain ⟨r, l0, rfl, hw, hF⟩ := hrel
  clear hf
  cases gk with
  | zero => cases hw
  | succ k =>
   unfold Dg.whole at hw; obtain ⟨o, h1, h2⟩ := Option.bind_eq_some_iff.1 hw; obtain ⟨ri, rfl, ho⟩ := Dg.at_some h1
   have hlen : l0.length + o.length < 1000000000 := by
    by_cases e : l0.length + o.length < Dg.big
    ·exact e
    ·rw [if_neg e] at h2; cases h2
   rw [if_pos hlen] at h2; clear hw h1; rename World => wo
   go_wp2
   have hF0 := hid hF; clear hF
   go_loopg [6, 7] (o.length + 1) (fun k v6 v7 wr => ∃ i : Nat, v7 = .int .i64 (i : Nat) ∧ i ≤ o.length ∧ k = o.length + 1 - i ∧ Fresh w wr v6 (Un.joinB l0 (o.take i)))
   case atStart => exact ⟨0, rfl, by omega, by omega, by simpa [Un.joinB] using hF0.out⟩
   case round =>
    obtain ⟨i, rfl, hi, rfl, hF⟩ := hrel; have hG := h.out.quiet hF.2.1; obtain ⟨g, cap, u, e5, c5, _, su, e4, _⟩ := hG.rowAt ho; obtain ⟨ua, uc, rfl, _⟩ := id su; have b5 := hG.gm.cells.2.2.2.2.2.1; rw [e5] at b5; have r0 : (0 : Int) ≤ ri := by omega
    have r1 : (ri : Int) < (d.ops.length : Int) := by omega
    by_cases e : i < o.length
    ·have i0 : (0 : Int) ≤ i := by omega
     have i1 : (i : Int) < (o.length : Int) := by omega
     obtain ⟨s, hs⟩ : ∃ s, o[i]? = some s := ⟨o[i], by simp⟩; obtain ⟨-, sg, sk, rfl⟩ := su.some (by omega); have cs := su.at hs; have hwi : IntKind.i64.wrap ((i : Int) + 1) = (i : Int) + 1 := IntWalk.i64_in _ (by omega); have hjl : (Un.joinB l0 (o.take i)).length < 1000000000 := by rw [Un.joinB_length]; simp; omega
     have HP := fun v6 (hv : Fresh w wr v6 (Un.joinB l0 (o.take i))) => put_any wr v6 _ s hv.sv hjl; replace HP := HP _ hF; replace hF := hid hF; replace hs := hid hs; clear hG su
     go_wp2_with (go_at_call 82; refine HP.mono ?_; clear HP; rintro e w1 ⟨v', rfl, h1⟩)
     go_roundg (o.length - i)
     case measure => omega
     case rel =>
      refine ⟨i + 1, by simp, by omega, by omega, ?_⟩; rw [joinB_take hs.out]; exact ⟨h1.1, hF.out.2.1.trans h1.2.1 (fun _ h => h.elim), fun k hk => Nat.le_trans hF.out.2.1.size (h1.2.2 k hk)⟩
    ·have i1 : ¬ (i : Int) < (o.length : Int) := by omega
     obtain rfl : i = o.length := by omega
     rw [List.take_length] at hF; obtain ⟨x, hx, h3⟩ := Option.bind_eq_some_iff.1 h2; obtain ⟨rj, e1, hxn⟩ := Dg.at_some hx; obtain rfl : ri = rj := by omega
     obtain ⟨ng, ncap, n1, n2, _, n4⟩ := GD.intAt hG.gm (j := 6) (by omega) hG.x6 hxn; have b6 := hG.gm.cells.2.2.2.2.2.2.1; rw [n1] at b6; have r2 : (ri : Int) < (d.next.length : Int) := by omega
     replace hF := hid hF; clear hG su h2 hx e1
     by_cases ex : x = -1
     ·subst ex
      rw [if_pos rfl] at h3; replace h3 := hid h3
      go_wp2
      go_ret2
      obtain ⟨e1, e2⟩ := Prod.mk.inj (Option.some.inj h3.out); rw [← e1, ← e2]; exact ⟨_, rfl, hF.out⟩
     ·rw [if_neg ex] at h3
      by_cases ex0 : x = 0
      ·subst ex0
       rw [if_pos rfl] at h3; replace h3 := hid h3
       go_wp2
       go_ret2
       obtain ⟨e1, e2⟩ := Prod.mk.inj (Option.some.inj h3.out); rw [← e1, ← e2]; exact ⟨_, rfl, hF.out⟩
      ·rw [if_neg ex0] at h3
       replace h3 := hid h3
       go_wp2
       go_roundg k
       case measure => omega
       case rel => exact ⟨x, _, rfl, h3.out, hF.out⟩
end Go.Proofs.Ytejciampbnfbhaa
