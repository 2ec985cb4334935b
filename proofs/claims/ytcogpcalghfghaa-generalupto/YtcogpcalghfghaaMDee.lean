/-
  Names in slices; the document's put.
  The document's less.
  The document's graph as lists, said as the document says it; how it lies in memory.
  The document's SameRow.
-/
import Derived.Test.YtcogpcalghfghaaDd
import Derived.Test.YtcogpcalghfghaaGa
import Derived.Sort.Walk0
set_option linter.unusedVariables false
set_option linter.unusedSimpArgs false
namespace Go.Proofs.Ytcogpcalghfghaa
open Go.RowKit

theorem at_plain (g k i : Nat) : (⟨g, k, none⟩ : Addr).add i = ⟨g, k + i, none⟩ := by simp [Addr.add]
abbrev str (s : List UInt8) : Value := .string ⟨s.toArray⟩
theorem run_leq (x s : List UInt8) (w : World) : Sem.run Try.prog (binOp BinOp.leq 9 (str x) (str s)) w = .ok (.bool (decide (x ≤ s))) w := by
  have h : (decide (x < s) || x == s) = decide (x ≤ s) := by
    by_cases e : x < s
    · simp [e, List.le_of_lt e]
    · by_cases e2 : x = s
      · subst e2; simp [List.le_refl]
      · have : ¬ x ≤ s := fun h => e (List.not_le.1 (fun h2 => e2 (List.le_antisymm h h2)))
        simp [e, e2, this]
  simp [str, binOp, run_underlying Try.underlying9, Op.stringOp, Proofs.bytesLess_eq, Lib.toList_data, h]
def strs (l : List (List UInt8)) : List Value := l.map str
/-- A block of names. -/
def Tg9 (w : World) (g : Nat) : Prop := ∃ cs fz, w.heap[g]? = some (.cells cs 9 fz)
theorem Tg9.lt {w : World} {g : Nat} (h : Tg9 w g) : g < w.heap.size := by
  obtain ⟨cs, fz, h⟩ := h
  exact (Array.getElem?_eq_some_iff.1 h).1
theorem Tg9.keep {w w' : World} {g : Nat} (h : Tg9 w g) (hs : w'.heap[g]? = w.heap[g]?) : Tg9 w' g := by
  obtain ⟨cs, fz, h⟩ := h
  exact ⟨cs, fz, hs.trans h⟩
/-- Names in a slice. -/
def SV (w : World) (v : Value) (l : List (List UInt8)) : Prop := ∃ a c, v = .slice a l.length c ∧ ((a = none ∧ l = [] ∧ c = 0) ∨ ∃ g k, a = some ⟨g, k, none⟩ ∧ l.length ≤ c ∧ Tg9 w g ∧ ∀ i s, l[i]? = some s → w.cell? ⟨g, k + i, none⟩ = some (str s))
theorem SV.keep {w w' : World} {v : Value} {l : List (List UInt8)} (h : SV w v l) {O : Nat → Prop} (hc : Ch O w w') (ho : ∀ k, v.ownBlock = some k → ¬ O k) : SV w' v l := by
  obtain ⟨a, c, rfl, h | ⟨g, k, rfl, h1, h2, h3⟩⟩ := h
  · exact ⟨a, c, rfl, .inl h⟩
  · exact ⟨_, c, rfl, .inr ⟨g, k, rfl, h1, h2.keep (hc.same g h2.lt (ho g rfl)), fun i s hs => (hc.cell (p := ⟨g, k + i, none⟩) h2.lt (ho g rfl)).trans (h3 i s hs)⟩⟩
theorem SV.drop {w : World} {g k n c : Nat} {l : List (List UInt8)} (h : SV w (.slice (some ⟨g, k, none⟩) n c) l) (i : Nat) (hi : i ≤ n) : SV w (.slice (some ⟨g, k + i, none⟩) (n - i) (c - i)) (l.drop i) := by
  obtain ⟨a, c', e, h | ⟨g', k', rfl, h1, h2, h3⟩⟩ := h
  · obtain ⟨rfl, _⟩ := h; cases e
  · cases e
    refine ⟨_, c - i, by simp, .inr ⟨g, k + i, rfl, by simp; omega, h2, fun j s hj => ?_⟩⟩
    rw [List.getElem?_drop] at hj
    rw [Nat.add_assoc]
    exact h3 _ s hj
theorem SV.fin {w : World} {g k n c : Nat} {l : List (List UInt8)} (h : SV w (.slice (some ⟨g, k, none⟩) n c) l) : SV w (.slice (if c = n then some ⟨g, k, none⟩ else some ⟨g, k + n, none⟩) 0 (c - n)) (l.drop l.length) := by
  obtain ⟨a, c', e, h | ⟨g', k', rfl, h1, h2, h3⟩⟩ := h
  · obtain ⟨rfl, _⟩ := h; cases e
  · cases e
    rw [List.drop_length]
    split
    · exact ⟨_, _, rfl, .inr ⟨g, k, rfl, Nat.zero_le _, h2, fun j s hj => by simp at hj⟩⟩
    · exact ⟨_, _, rfl, .inr ⟨g, _, rfl, Nat.zero_le _, h2, fun j s hj => by simp at hj⟩⟩
theorem SV.of_row {w : World} {v : Value} {l : List (List UInt8)} (h : w.ownsRow 0 9 1 v l.length (strs l)) : SV w v l := by
  rcases h.2 with ⟨rfl, hn⟩ | ⟨g, cap, cur, rfl, hb, hg, h1, h2, h3, h4⟩
  · have hl : l.length = 0 := hn
    exact ⟨none, 0, by rw [hl], .inl ⟨rfl, List.eq_nil_of_length_eq_zero hl, rfl⟩⟩
  · exact ⟨_, cap, rfl, .inr ⟨g, 0, rfl, h1, ⟨_, _, hg⟩, fun i s hs => by rw [Nat.zero_add]; exact row_cell h i _ (by simp [strs, hs])⟩⟩
theorem run_append_sv {w : World} {v : Value} {n : Nat} {xs : List Value} (hown : w.ownsRow 0 9 1 v n xs) {u : Value} {l : List (List UInt8)} (hu : SV w u l) (hn : n + l.length < 4000000000) (ty : TypeId) :
    ∃ v' w', (Builtin.append_ #[24, 24] ty #[v, u]).run Try.prog w = .ok v' w' ∧ w'.ownsRow 0 9 1 v' (n + l.length) (xs ++ strs l) ∧ w.grownBy w' v.ownBlock ∧ (v'.ownBlock = v.ownBlock ∨ v'.ownBlock = some w.heap.size) := by
  obtain ⟨i, hi, hzz⟩ := Option.map_eq_some_iff.1 Try.info9
  simp only [Prod.mk.injEq] at hzz
  obtain ⟨hz, hs, hb⟩ := hzz
  obtain ⟨a, c, rfl, ⟨rfl, rfl, rfl⟩ | ⟨g, k, rfl, h1, h2, h3⟩⟩ := hu
  · have hr := run_append_owned_none (P := Try.prog) (w := w) 0 24 ty 9 i 1 Try.underlying24 hi v n xs hown
    exact ⟨v, w, hr, by simpa [strs] using hown, World.grownBy.refl _ _, .inl rfl⟩
  · obtain ⟨v', w', hr, h4, h5, h6, h7⟩ := run_append_own_at (P := Try.prog) w 0 24 ty 9 i _ 1 16 Try.underlying24 hi hz hs hb rfl (by decide) v n xs hown ⟨g, k, none⟩ l.length c (strs l) (by simp [strs]) (fun j u hj => by
      obtain ⟨s, hs, rfl⟩ : ∃ s, l[j]? = some s ∧ str s = u := by simpa [strs] using hj
      rw [at_plain]
      exact h3 j s hs) (fun u hu => by
      obtain ⟨s, _, rfl⟩ : ∃ s ∈ l, str s = u := by simpa [strs] using hu
      rfl) (by unfold maxLen; omega) (by omega) (Nat.zero_le _)
    exact ⟨v', w', hr, h4, h5, h7⟩
section
variable {ops : Array Oper} {rest : List Oper} {o : Oper} {a : Act} {w : World} {Q : Exit → Act → World → Prop}
theorem list_append_sv (hgd : o.guard = none) (s x : Operand) (hop : o.op = Op.call { callee := Callee.builtin Builtin.append, args := #[s, x], argTypes := #[24, 24] }) {v u : Value} {n : Nat} {xs : List Value} {l : List (List UInt8)} (hs : a.eval s = v) (hx : a.eval x = u) (hown : w.ownsRow 0 9 1 v n xs) (hu : SV w u l) (hn : n + l.length < 4000000000)
    (hK : ∀ v' w', w'.ownsRow 0 9 1 v' (n + l.length) (xs ++ strs l) → w.grownBy w' v.ownBlock → (v'.ownBlock = v.ownBlock ∨ v'.ownBlock = some w.heap.size) → wpList Try.prog ops Q rest (a.put o.dst v') w') :
    wpList Try.prog ops Q (o :: rest) a w :=
  wpList_plain hgd fun _ hK' => by
    obtain ⟨v', w', hr, h1, h2, h3⟩ := run_append_sv hown hu hn o.type
    unfold Oper.wp execOp
    simp only [hop, resolve, invoke, builtin, Sem.run_bind, Sem.run_pure, Result.andThen_ok, List.map_toArray, List.map_cons, List.map_nil, hs, hx, hr]
    exact hK' _ _ (hK v' w' h1 h2 h3)
end
/-- A row of one's own, all of new blocks. -/
def Fresh (w w' : World) (v : Value) (l : List (List UInt8)) : Prop := w'.ownsRow 0 9 1 v l.length (strs l) ∧ Ch (fun _ => False) w w' ∧ ∀ k, v.ownBlock = some k → w.heap.size ≤ k
theorem Fresh.nil (w : World) : Fresh w w (.slice none 0 0) [] := ⟨World.ownsRow_nil _ _ _ _, Ch.refl _ _, fun k h => by cases h⟩
theorem Fresh.quiet {w w' w2 : World} {v : Value} {l : List (List UInt8)} (h : Fresh w w' v l) (hc : Ch (fun _ => False) w' w2) : Fresh w w2 v l :=
  ⟨ownsRow_keep h.1 (fun k hk => hc.same k (ownsRow_lt h.1 hk) (fun h => h)), h.2.1.trans hc (fun _ h => h.elim), h.2.2⟩
theorem Fresh.more {w w' w1 : World} {v v' : Value} {l m : List (List UInt8)} (h : Fresh w w' v l) (hrow : w1.ownsRow 0 9 1 v' (l.length + m.length) (strs l ++ strs m)) (hgrow : w'.grownBy w1 v.ownBlock) (hblk : v'.ownBlock = v.ownBlock ∨ v'.ownBlock = some w'.heap.size) : Fresh w w1 v' (l ++ m) := by
  refine ⟨by simpa [strs] using hrow, h.2.1.trans (Ch.grown (O := fun k => v.ownBlock = some k) hgrow (fun k hk => hk)) (fun k hk => .inr (h.2.2 k hk)), fun k hk => ?_⟩
  rcases hblk with e | e
  · exact h.2.2 k (e.symm.trans hk)
  · rw [e] at hk; cases hk; exact h.2.1.size
theorem Fresh.sv {w w' : World} {v : Value} {l : List (List UInt8)} (h : Fresh w w' v l) : SV w' v l := SV.of_row h.1
theorem one_sv (w : World) (s : List UInt8) : SV (w.alloc (.cells #[str s] 9)) (.slice (some ⟨w.heap.size, 0, none⟩) 1 1) [s] := by
  refine ⟨_, 1, rfl, .inr ⟨w.heap.size, 0, rfl, Nat.le_refl _, ⟨_, _, World.alloc_heap_new w _⟩, fun i u hi => ?_⟩⟩
  have hb := World.alloc_heap_new w (.cells #[str s] 9)
  cases i with
  | zero =>
    obtain rfl : s = u := by simpa using hi
    simp only [World.cell?, hb]
    rfl
  | succ i => simp at hi
namespace Un
theorem ins_split (s : Nm) : ∀ (l : List Nm) (i : Nat), (∀ x ∈ l.take i, x ≤ s) → ins s l = l.take i ++ ins s (l.drop i)
  | [], _, _ => by simp
  | x :: r, 0, _ => by simp
  | x :: r, i + 1, h => by
    have hx : x ≤ s := h x (by simp)
    rw [show ins s (x :: r) = x :: ins s r by simp [ins, hx], ins_split s r i (fun y hy => h y (by simp [hy]))]
    simp
theorem ins_stop (s : Nm) {l : List Nm} (h : ∀ x, l[0]? = some x → ¬ x ≤ s) : ins s l = s :: l := by
  cases l with
  | nil => rfl
  | cons x r => simp [ins, h x rfl]
end Un

set_option maxRecDepth 100000 in
set_option maxHeartbeats 2000000 in
theorem put_any (w : World) (v : Value) (l : List (List UInt8)) (s : List UInt8) (hv : SV w v l) (hn : l.length < 1000000000) :
    Calls Try.prog 14 #[v, str s] w fun e w' => ∃ v', e = .returned v' ∧ Fresh w w' v' (Un.ins s l) := by
  obtain ⟨a, c, rfl, hcase⟩ := id hv
  go_enter Try.func14, Try.ntmps14
  go_wp2
  go_loopg [5, 6] (l.length + 1) (fun k v5 v6 wr => ∃ i : Nat, v6 = .int .i64 (i : Nat) ∧ i ≤ l.length ∧ k = l.length + 1 - i ∧ Fresh w wr v5 (l.take i) ∧ ∀ x ∈ l.take i, x ≤ s)
  case atStart => exact ⟨0, rfl, by omega, by omega, by simpa using Fresh.nil w, by simp⟩
  case round =>
    obtain ⟨i, rfl, hi, rfl, hF, hle⟩ := hrel
    have hvr := hv.keep hF.2.1 (fun _ _ h => h)
    by_cases e : i < l.length
    · have i1 : (i : Int) < (l.length : Int) := by omega
      have i0 : (0 : Int) ≤ i := by omega
      obtain ⟨x, hx⟩ : ∃ x, l[i]? = some x := ⟨l[i], by simp⟩
      obtain ⟨a', c', e1, h | ⟨g, k, rfl, h1, h2, h3⟩⟩ := id hvr
      · obtain ⟨_, rfl, _⟩ := h; simp at e
      · cases e1
        have hc := h3 i x hx
        replace hx := hid hx
        clear h3
        have hlq := run_leq x s wr
        by_cases hxs : x ≤ s
        · have hF2 := hF.quiet (al_ch wr (.cells #[str x] 9))
          have hwi : IntKind.i64.wrap ((i : Int) + 1) = (i : Int) + 1 := IntWalk.i64_in _ (by omega)
          have hlt : (l.take i).length = i := by simp; omega
          go_wp2_with (at_builtin; go_must (refine list_append_sv rfl (.tmp 19) (.tmp 24) rfl (l := [x]) rfl rfl hF2.1 (one_sv wr x) (by simp <;> omega) ?_); intro v' w1 hrow1 hgrow hblk)
          go_roundg (l.length - i)
          case measure => omega
          case rel =>
            refine ⟨i + 1, by simp, by omega, by omega, ?_, ?_⟩
            · rw [show l.take (i + 1) = l.take i ++ [x] by rw [List.take_add_one, hx.out]; rfl]
              exact hF2.more hrow1 hgrow hblk
            · intro y hy
              rw [show l.take (i + 1) = l.take i ++ [x] by rw [List.take_add_one, hx.out]; rfl] at hy
              rcases List.mem_append.1 hy with hy | hy
              · exact hle y hy
              · obtain rfl := List.mem_singleton.1 hy; exact hxs
        · have hF2 := hF.quiet (al_ch wr (.cells #[str s] 9))
          have hlt : (l.take i).length = i := by simp; omega
          have hstop : ∀ y, (l.drop i)[0]? = some y → ¬ y ≤ s := fun y hy => by
            rw [List.getElem?_drop, Nat.add_zero, hx.out] at hy
            cases hy
            exact hxs
          replace hstop := hid hstop
          replace hle := hid hle
          go_wp2_with (first
            | (at_builtin; have _g := hF2; clear _g; go_must (refine list_append_sv rfl (.tmp 28) (.tmp 30) rfl (l := [s]) rfl rfl hF2.1 (one_sv wr s) (by simp <;> omega) ?_); intro v' w1 hrow1 hgrow hblk; have hF3 := hF2.more hrow1 hgrow hblk; clear hrow1 hgrow hblk hF2; have hS3 := (hv.keep hF3.2.1 (fun _ _ h => h)).drop i hi)
            | (at_builtin; go_must (refine list_append_sv rfl (.tmp 32) (.tmp 35) rfl (l := l.drop i) rfl rfl hF3.1 hS3 (by simp <;> omega) ?_); intro v2 w2 hrow2 hgrow2 hblk2; have hF4 := hF3.more hrow2 hgrow2 hblk2; clear hrow2 hgrow2 hblk2))
          go_ret
          refine ⟨v2, by simp, ?_⟩
          rw [Un.ins_split s l i hle.out, Un.ins_stop s (l := l.drop i) hstop.out]
          simpa using hF4
    · have i1 : ¬ (i : Int) < (l.length : Int) := by omega
      obtain rfl : i = l.length := by omega
      have hF2 := hF.quiet (al_ch wr (.cells #[str s] 9))
      have hlt : (l.take l.length).length = l.length := by simp
      have hstop : ∀ y, (l.drop l.length)[0]? = some y → ¬ y ≤ s := fun y hy => by simp at hy
      replace hstop := hid hstop
      replace hle := hid hle
      rcases hcase with ⟨rfl, rfl, rfl⟩ | ⟨g, k, rfl, hlc, _, _⟩
      · go_wp2_with (first
            | (at_builtin; have _g := hF2; clear _g; go_must (refine list_append_sv rfl (.tmp 28) (.tmp 30) rfl (l := [s]) rfl rfl hF2.1 (one_sv wr s) (by simp <;> omega) ?_); intro v' w1 hrow1 hgrow hblk; have hF3 := hF2.more hrow1 hgrow hblk; clear hrow1 hgrow hblk hF2; have hS3 := hv.keep hF3.2.1 (fun _ _ h => h))
            | (at_builtin; go_must (refine list_append_sv rfl (.tmp 32) (.tmp 35) rfl (l := []) rfl rfl hF3.1 hS3 (by simp <;> omega) ?_); intro v2 w2 hrow2 hgrow2 hblk2; have hF4 := hF3.more hrow2 hgrow2 hblk2; clear hrow2 hgrow2 hblk2))
        go_ret
        refine ⟨v2, by simp, ?_⟩
        rw [Un.ins_split s [] 0 hle.out, Un.ins_stop s (l := List.drop 0 []) hstop.out]
        simpa using hF4
      · go_wp2_with (first
            | (at_builtin; have _g := hF2; clear _g; go_must (refine list_append_sv rfl (.tmp 28) (.tmp 30) rfl (l := [s]) rfl rfl hF2.1 (one_sv wr s) (by simp <;> omega) ?_); intro v' w1 hrow1 hgrow hblk; have hF3 := hF2.more hrow1 hgrow hblk; clear hrow1 hgrow hblk hF2; have hS3 := (hv.keep hF3.2.1 (fun _ _ h => h)).fin)
            | (at_builtin; go_must (refine list_append_sv rfl (.tmp 32) (.tmp 35) rfl (l := l.drop l.length) rfl rfl hF3.1 hS3 (by simp <;> omega) ?_); intro v2 w2 hrow2 hgrow2 hblk2; have hF4 := hF3.more hrow2 hgrow2 hblk2; clear hrow2 hgrow2 hblk2))
        all_goals
          go_ret
          refine ⟨v2, by simp, ?_⟩
          rw [Un.ins_split s l l.length hle.out, Un.ins_stop s (l := l.drop l.length) hstop.out]
          simpa using hF4
end Go.Proofs.Ytcogpcalghfghaa

namespace Go.Proofs.Ytcogpcalghfghaa
open Go.RowKit

namespace Un
end Un
theorem Ch.dn {O : Nat → Prop} {w w' : World} (h : Ch O w w') (n : Nat) : Ch O w (w'.drewN n) := h.trans (O1 := fun _ => False) ⟨Nat.le_refl _, fun _ _ _ => rfl, rfl, rfl⟩ (fun _ h => h.elim)
theorem SV.at {w : World} {g k n c : Nat} {l : List (List UInt8)} (h : SV w (.slice (some ⟨g, k, none⟩) n c) l) {i : Nat} {s : List UInt8} (hs : l[i]? = some s) : w.cell? ⟨g, k + i, none⟩ = some (str s) := by
  obtain ⟨a, c', e, h | ⟨g', k', rfl, h1, h2, h3⟩⟩ := h
  · obtain ⟨rfl, _⟩ := h; cases e
  · cases e; exact h3 i s hs
theorem SV.some {w : World} {a : Option Addr} {n c : Nat} {l : List (List UInt8)} (h : SV w (.slice a n c) l) (hl : 0 < l.length) : n = l.length ∧ ∃ g k, a = some ⟨g, k, none⟩ := by
  obtain ⟨a', c', e, h | ⟨g', k', rfl, h1, h2, h3⟩⟩ := h
  · obtain ⟨_, rfl, _⟩ := h; simp at hl
  · cases e; exact ⟨rfl, g', k', rfl⟩
end Go.Proofs.Ytcogpcalghfghaa

namespace Go.Proofs.Ytcogpcalghfghaa
open Go.RowKit

namespace Dg
structure D where
  kind : List Int
  a : List Int
  b : List Int
  row : List Int
  link : List Int
  ops : List (List Un.Nm)
  next : List Int
  tv : List (Int × Int)
  rv : List (Int × Int)
abbrev big : Nat := 1000000000
def D.small (d : D) : Prop := d.kind.length < big ∧ d.a.length < big ∧ d.b.length < big ∧ d.row.length < big ∧ d.link.length < big ∧ d.ops.length < big ∧ d.next.length < big
instance (d : D) : Decidable d.small := by unfold D.small; infer_instance
def D.put (d : D) (k a b r : Int) : D := { d with kind := d.kind ++ [k], a := d.a ++ [a], b := d.b ++ [b], row := d.row ++ [r], link := d.link ++ [-1] }
def D.putRow (d : D) (o : List Un.Nm) (x : Int) : D := { d with ops := d.ops ++ [o], next := d.next ++ [x] }
def D.lnk (d : D) (m : Nat) (n : Int) : D := { d with link := d.link.set m n }
/-- All operations of a row, in order, and its variable. -/
def whole : Nat → D → Int → List Un.Nm → Option (List Un.Nm × Int)
  | 0, _, _, _ => none
  | f + 1, d, r, l => (at? d.ops r).bind fun o => if l.length + o.length < big then (at? d.next r).bind fun x => if x = -1 then some (Un.joinB l o, r) else if x = 0 then some (Un.joinB l o, 0) else whole f d x (Un.joinB l o) else none
def stands (d : D) (v : Int) (o : List Un.Nm) (x : Int) : Option D := if 0 ≤ v ∧ v < d.ops.length ∧ v < d.next.length then some { d with ops := d.ops.set v.toNat o, next := d.next.set v.toNat x } else none
def sameRow (f : Nat) (d : D) (r s : Int) : Option (Bool × D) :=
  (whole f d r []).bind fun p => (whole f d s []).bind fun q =>
    if p.1.length < big ∧ q.1.length < big then
      if p.2 = q.2 then some (decide ((Un.less p.1 q.1).length = 0) && decide ((Un.less q.1 p.1).length = 0), d)
      else if p.2 = 0 then (if 0 < (Un.less q.1 p.1).length then some (false, d) else (stands d q.2 (Un.less p.1 q.1) 0).map fun d => (true, d))
      else if q.2 = 0 then (if 0 < (Un.less p.1 q.1).length then some (false, d) else (stands d p.2 (Un.less q.1 p.1) 0).map fun d => (true, d))
      else if d.small then (stands (d.putRow [] (-1)) p.2 (Un.less q.1 p.1) d.ops.length).bind fun d2 => (stands d2 q.2 (Un.less p.1 q.1) d.ops.length).map fun d => (true, d)
      else none
    else none
def same (f : Nat) : Nat → D → Int → Int → Option (Bool × D)
  | 0, _, _, _ => none
  | k + 1, d, m, n => (find f d.link m).bind fun m => (find f d.link n).bind fun n =>
    if m = n then some (true, d) else
    (at? d.kind m).bind fun km => if km = 0 then some (true, d.lnk m.toNat n) else
    (at? d.kind n).bind fun kn => if kn = 0 then some (true, d.lnk n.toNat m) else
    if km ≠ kn then some (false, d) else
    (at? d.a m).bind fun am => (at? d.a n).bind fun an => (at? d.b m).bind fun bm => (at? d.b n).bind fun bn => (at? d.row m).bind fun rm => (at? d.row n).bind fun rn =>
    (if 0 ≤ am then same f k (d.lnk m.toNat n) am an else some (true, d.lnk m.toNat n)).bind fun p => if p.1 = false then some (false, p.2) else
    (if 0 ≤ bm then same f k p.2 bm bn else some (true, p.2)).bind fun q => if q.1 = false then some (false, q.2) else
    if km = 6 then sameRow f q.2 rm rn else some (true, q.2)
end Dg

theorem SV.nil (w : World) : SV w (.slice none 0 0) [] := ⟨none, 0, rfl, .inl ⟨rfl, rfl, rfl⟩⟩
end Go.Proofs.Ytcogpcalghfghaa

namespace Go.Proofs.Ytcogpcalghfghaa
open Go.RowKit

theorem Fresh.apart {w w' : World} {v : Value} {l : List (List UInt8)} (h : Fresh w w' v l) {b : Nat} {G : Gg} (hg : GM w b G) : ∀ k, v.ownBlock = some k → ¬ G.own b k := fun k hk ho => by
  have := h.2.2 k hk
  have := hg.lt ho
  omega
theorem Fresh.from {w0 w w' : World} {v : Value} {l : List (List UInt8)} (h : Fresh w w' v l) (hc : Ch (fun _ => False) w0 w) : Fresh w0 w' v l := ⟨h.1, hc.trans h.2.1 (fun _ h => h.elim), fun k hk => Nat.le_trans hc.size (h.2.2 k hk)⟩
end Go.Proofs.Ytcogpcalghfghaa
