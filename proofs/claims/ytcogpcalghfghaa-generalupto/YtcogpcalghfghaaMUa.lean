/-
  slices.Values, AppendSeq, Collect of names.
  Bags: how one is made of names in order; plain laws, and how bags lie in memory.
-/
import Derived.Test.YtcogpcalghfghaaZa
import Derived.Test.YtcogpcalghfghaaMEe
import Derived.LoopIn
import Derived.LoopNIn
import Derived.OwnWalkIn
import Derived.Shelf.Abstract
import Derived.Shelf.RegionOpen
import Derived.TacticsInMore
set_option linter.unusedVariables false
set_option linter.unusedSimpArgs false
namespace Go.Proofs.Ytcogpcalghfghaa
open Go.RowKit Go.Shelf
attribute [local go_sem] Oper.semAt_some

theorem block_lt_of_cell {w : World} {p : Addr} {v : Value} (h : w.cell? p = some v) : p.block < w.heap.size := World.block_lt_of_cell? w p h
/-- The blocks that a slice of names reads. -/
def NmB (v : Value) (k : Nat) : Prop := v.ownBlock = some k
set_option maxRecDepth 100000 in
set_option maxHeartbeats 4000000 in
theorem values_goes (w : World) (B : Nat) (v : Value) (o : List (List UInt8)) (h : w.cell? ⟨B, 0, none⟩ = some v) (hv : OpsV w v o) (hn : o.length < 1000000000000) :
    Goes Try.prog 47 #[] #[.pointer (some ⟨B, 0, none⟩)] (fun s : List UInt8 => #[str s]) o (fun k => k = B ∨ (o ≠ [] ∧ NmB v k)) w := by
  intro l J O hJ hDO hY h0
  obtain ⟨a, c, rfl, hc, hx⟩ := hv
  have hbl : B < w.heap.size := block_lt_of_cell h
  have hbO := hDO B (.inl rfl)
  refine callsIn_of_wp Try.func47 rfl trivial ?_ rfl
  simp only [Try.ntmps47, List.size_toArray, List.length_cons, List.length_nil, Nat.reduceAdd, Nat.reduceSub, Array.replicate_succ, Array.replicate_zero, List.push_toArray, List.append_toArray, List.nil_append, List.cons_append]
  gi_wp2
  gi_loopw [7] (fun i wr => ∃ (k : Nat) (O1 : Nat → Prop), i = .int .i64 k ∧ k ≤ o.length ∧ J (o.take k) O1 wr ∧ Ch O w wr ∧ (∀ j, O1 j → O j ∨ w.heap.size ≤ j)) (fun i _ => o.length - (intOf i).toNat)
  case atStart => exact ⟨0, O, rfl, by omega, h0, Ch.refl _ _, fun _ h => .inl h⟩
  case round =>
    obtain ⟨k, O1, rfl, hk, hJk, hck, hsub⟩ := hrel
    by_cases e : k = o.length
    · subst e
      have hcond : ¬ ((o.length : Int) < (o.length : Int)) := by omega
      gi_wp2
      go_end0
      rw [List.take_length] at hJk
      exact ⟨⟨_, rfl⟩, O1, hJk, hck, hsub⟩
    · have hlt : k < o.length := by omega
      have ho : o ≠ [] := fun e => by rw [e] at hlt; simp at hlt
      obtain ⟨g, q, rfl, hcell⟩ := hx ho
      have hgO : ¬ O g := hDO g (.inr ⟨ho, rfl⟩)
      have hck0 := hcell k hlt
      have hgl : g < w.heap.size := block_lt_of_cell hck0
      have ce : wr.cell? ⟨g, q + k, none⟩ = some (str o[k]) := (hck.cell (p := ⟨g, q + k, none⟩) hgl hgO).trans hck0
      have hw : IntKind.i64.wrap ((k : Int) + 1) = ((k + 1 : Nat) : Int) := by rw [IntWalk.i64_in _ (by omega)]; omega
      have hsp : ∃ rest, o = o.take k ++ o[k] :: rest := ⟨o.drop (k + 1), by rw [← List.drop_eq_getElem_cons hlt, List.take_append_drop]⟩
      obtain ⟨fn, tmps, assign, body, hy, hR⟩ := hY _ _ O1 wr hJk hsp
      have e2 : o.take (k + 1) = o.take k ++ [o[k]] := List.take_succ_eq_append_getElem hlt
      have k0 : (0 : Int) ≤ k := by omega
      have hcond : (k : Int) < (o.length : Int) := by omega
      generalize o[k] = x at *
      clear hck0 hcell
      gi_wp2
      refine ⟨rfl, hR.mono ?_⟩
      rintro e W3 ⟨rfl, O2, hJ3, hc3, hs3⟩
      dsimp only
      gi_wp2
      go_roundw
      case rel =>
        refine ⟨k + 1, O2, by simp, by omega, ?_, hck.trans hc3 hsub, fun j hj => ?_⟩
        · rw [e2]; exact hJ3
        · rcases hs3 j hj with h | h
          · exact hsub j h
          · have := hck.size; exact .inr (by omega)
      case measure => simp [intOf]; omega
theorem listIn_append {F : Fence} {n : Nat} {P : Program} (w : World) {ops : Array Oper} {rest : List Oper} {o : Oper} {a : Act} {Q : Exit → Act → World → Prop}
    (hg : o.guard = none) (s x : Operand) (t : TypeId) (hop : o.op = Op.call { callee := Callee.builtin Builtin.append, args := #[s, x], argTypes := #[t, t] }) (e : TypeId) (z : Value) (size bytes : Nat)
    (ht : P.underlying t = some (.slice e)) (hinfo : (P.info? e).map (fun i => (i.zero, i.size, i.bytes)) = some (some z, size, bytes)) (hzs : z.cells.size = size) (hsz : 0 < size)
    (v : Value) (k : Nat) (xs : List Value) (hs : a.eval s = v) (hown : w.ownsRow 0 e size v k xs) (ad : Addr) (m c : Nat) (news : List Value) (hx : a.eval x = .slice (some ad) m c) (hl : news.length = m * size)
    (hc : ∀ j u, news[j]? = some u → w.cell? (ad.add j) = some u) (h1c : ∀ u ∈ news, u.oneCell' = true) (b1 : k + m ≤ maxLen) (b2 : (k + m) * bytes ≤ 140737488355328)
    (hK : ∀ v' w', w'.ownsRow 0 e size v' (k + m) (xs ++ news) → w.grownBy w' v.ownBlock → (v'.ownBlock = v.ownBlock ∨ v'.ownBlock = some w.heap.size) → wpListIn F n P ops Q rest (a.put o.dst v') w') :
    wpListIn F n P ops Q (o :: rest) a w := by
  refine wpListIn_plain hg fun K hK' => ?_
  obtain ⟨i, hi, hzz⟩ := Option.map_eq_some_iff.1 hinfo
  simp only [Prod.mk.injEq] at hzz
  obtain ⟨hz, hs1, hb⟩ := hzz
  obtain ⟨v', w', hrun, r1, r2, _, r4⟩ := run_append_own_at (P := P) w 0 t o.type e i z size bytes ht hi hz hs1 hb hzs hsz v k xs hown ad m c news hl hc h1c b1 b2 (Nat.zero_le _)
  unfold Oper.wpIn
  refine ⟨?_, ?_⟩
  · simp [Oper.about, hop, resolve, Target.leads, Sem.run_pure]
  · rw [Oper.semAt_plain F _ _ (by rw [hop]; intro c hc'; cases hc')]
    simp [execOp, hop, resolve, invoke, builtin, hs, hx, hrun, Result.andThen]
    exact hK' _ _ (hK v' w' r1 r2 r4)
/-- The variable s in the block B, and its row. -/
def Lst (B : Nat) (pre : List (List UInt8)) (O : Nat → Prop) (W : World) : Prop :=
  ∃ v, W.heap[B]? = some (.cells #[v] 24 (0, 0)) ∧ W.ownsRow 0 9 1 v pre.length (strs pre) ∧ v.ownBlock ≠ some B ∧ ∀ k, O k ↔ k = B ∨ v.ownBlock = some k
theorem Lst.owns (B N : Nat) : Owns N (Lst B) :=
  ⟨fun s O W W' ⟨v, h1, h2, h3, h4⟩ _ hsz hsm => ⟨v, (hsm B (.inl ((h4 B).2 (.inl rfl)))).trans h1, ownsRow_keep h2 (fun k hk => hsm k (.inl ((h4 k).2 (.inr hk)))), h3, h4⟩,
   fun s O W k ⟨v, h1, h2, h3, h4⟩ hk => by
    rcases (h4 k).1 hk with rfl | h
    · exact (Array.getElem?_eq_some_iff.1 h1).1
    · exact ownsRow_lt h2 h⟩
theorem app_facts {W w1 : World} {B n : Nat} {X : Obj} {u v' : Value} {xs : List Value} (h1 : W.heap[B]? = some (.cells #[u] 24 (0, 0))) (h3 : u.ownBlock ≠ some B) (hrow1 : w1.ownsRow 0 9 1 v' (n + 1) xs) (hgrow : (W.alloc X).grownBy w1 u.ownBlock) :
    ∃ g' cap', v' = .slice (some ⟨g', 0, none⟩) (n + 1) cap' ∧ w1.heap[B]? = some (.cells #[u] 24 (0, 0)) ∧ w1.cell? ⟨B, 0, none⟩ = some u ∧ w1.frozen? ⟨B, 0, none⟩ = false := by
  obtain ⟨g', cap', rfl⟩ := ownsRow_succ hrow1
  have hb2 : (W.alloc X).heap[B]? = _ := blk_alloc h1
  have hb3 := (hgrow.block B (Array.getElem?_eq_some_iff.1 hb2).1 (fun e => h3 e.symm)).trans hb2
  exact ⟨g', cap', rfl, hb3, by simp [World.cell?, hb3], by simp [World.frozen?, hb3]⟩

set_option maxRecDepth 100000 in
set_option maxHeartbeats 4000000 in
theorem appendSeq_any (w : World) (gf : Nat) (lb : Array Value) (xs : List (List UInt8)) (D : Nat → Prop) (eg : ∀ args w, (callFunc gf args).run Try.prog w = .ok (.enter gf args) w) (hseq : ∀ W1, Ch (fun _ => False) w W1 → Goes Try.prog gf #[] lb (fun s : List UInt8 => #[str s]) xs D W1) (hD : ∀ k, D k → k < w.heap.size) (hxs : xs.length < 1000000000) :
    Calls Try.prog 55 #[.slice none 0 0, .func (.func gf) #[] lb] w fun e w' => ∃ v, e = .returned v ∧ Fresh w w' v xs := by
  refine (callsIn_wide (n := 0)).1 ?_
  refine callsIn_of_wp_marks Try.func55 rfl trivial ?_ rfl
  simp only [Try.ntmps55, List.size_toArray, List.length_cons, List.length_nil, Nat.reduceAdd, Nat.reduceSub, Array.replicate_succ, Array.replicate_zero, List.push_toArray, List.append_toArray, List.nil_append, List.cons_append]
  gi_wp2
  have hBl : ∀ W1, Ch (fun _ => False) (w.alloc (.cells #[.slice none 0 0] 24)) W1 → Goes Try.prog gf #[] lb (fun s : List UInt8 => #[str s]) xs D W1 := fun W1 h1 => hseq W1 (((Ch.refl _ w).al _).trans h1 (fun _ h => h.elim))
  obtain ⟨W0, hW0⟩ : ∃ W0, w.alloc (.cells #[.slice none 0 0] 24) = W0 := ⟨_, rfl⟩
  have b0 : W0.heap[w.heap.size]? = some (.cells #[.slice none 0 0] 24 (0, 0)) := by rw [← hW0]; exact World.alloc_heap_new w _
  have hs0 : W0.heap.size = w.heap.size + 1 := by rw [← hW0]; simp
  have hc0 : Ch (fun _ => False) w W0 := by rw [← hW0]; exact (Ch.refl _ w).al _
  rw [hW0] at hBl ⊢
  clear hW0
  refine wp_range (gf := gf) (bd := #[]) (lb := lb) (encs := fun s : List UInt8 => #[str s]) (xs := xs) (D := D) (O := fun k => k = w.heap.size) rfl eg hBl (fun k hk => by have := hD k hk; omega) (fun _ => rfl) (fun k hk hk2 => by have := hD k hk; omega)
    (Lst w.heap.size) (Lst.owns _ _) ⟨.slice none 0 0, b0, ⟨rfl, .inl ⟨rfl, rfl⟩⟩, by simp [Value.ownBlock], fun k => by simp [Value.ownBlock]⟩
    (fun x => { tmps := #[.slice none 0 0, .func (.func gf) #[] lb, .pointer (some ⟨w.heap.size, 0, none⟩), undef, .slice none 0 0, str x, .func (.func gf) #[] lb, str x, undef, undef, undef, undef, undef], defers := [] })
    ?assign ?body ?done
  case assign =>
    intro l2 x W K hK
    simp only [List.zip_toArray, List.foldl_toArray, List.zip_cons_cons, List.zip_nil_right, List.foldl_cons, List.foldl_nil, List.setIfInBounds_toArray, List.set_cons_zero, List.set_cons_succ]
    gi_wp2
    exact hK
  case body =>
    rintro l2 pre x O1 W ⟨v, h1, h2, h3, h4⟩ ⟨rest, hx⟩ hsub hc
    have hcl : W.cell? ⟨w.heap.size, 0, none⟩ = some v := by simp [World.cell?, h1]
    have hfr : W.frozen? ⟨w.heap.size, 0, none⟩ = false := by simp [World.frozen?, h1]
    have hpl : pre.length < 1000000000 := by rw [hx] at hxs; simp at hxs; omega
    obtain ⟨a, cap, rfl, _⟩ := row_slice h2
    have hAc := new_one W (str x) 9
    have hr1 : (W.alloc (.cells #[str x] 9)).ownsRow 0 9 1 (.slice a pre.length cap) pre.length (strs pre) := ownsRow_keep h2 (fun k hk => (Ch.alloc (fun _ => False) W _).same k (ownsRow_lt h2 hk) (fun h => h))
    have hbl : w.heap.size < W.heap.size := (Array.getElem?_eq_some_iff.1 h1).1
    gi_wp2_with (gi_at_builtin; go_must (refine listIn_append _ rfl (.tmp 8) (.tmp 10) 24 rfl 9 (.string ⟨#[]⟩) 1 16 Try.underlying24 Try.info9 rfl (by decide) (.slice a pre.length cap) pre.length (strs pre) rfl hr1 ⟨W.heap.size, 0, none⟩ 1 1 [str x] rfl rfl hAc (by simp [Value.oneCell']) (by unfold maxLen; omega) (by omega) ?_); intro v' w1 hrow1 hgrow hblk; obtain ⟨g', cap', rfl, hb3, hcl3, hfr3⟩ := app_facts h1 h3 hrow1 hgrow)
    have hcw : Ch O1 W w1 := ((Ch.refl _ W).al _).trans (Ch.grown hgrow (fun k hk => hk)) (fun k hk => .inl ((h4 k).2 (.inr hk)))
    have hm : ∀ k, (Value.slice (some ⟨g', 0, none⟩) (pre.length + 1) cap').ownBlock = some k → O1 k ∨ W.heap.size ≤ k := by
      intro k hk
      rcases hblk with e | e
      · exact .inl ((h4 k).2 (.inr (e.symm.trans hk)))
      · rw [e] at hk; cases hk; exact .inr (by simp)
    refine ⟨fun k => k = w.heap.size ∨ (Value.slice (some ⟨g', 0, none⟩) (pre.length + 1) cap').ownBlock = some k, ⟨.slice (some ⟨g', 0, none⟩) (pre.length + 1) cap', blk_set hb3, ?_, ?_, fun k => Iff.rfl⟩, hcw.set (a := ⟨w.heap.size, 0, none⟩) ((h4 _).2 (.inl rfl)) _, ?_⟩
    · have hne : (Value.slice (some ⟨g', 0, none⟩) (pre.length + 1) cap').ownBlock ≠ some w.heap.size := fun e => by
        rcases hblk with e2 | e2
        · exact h3 (e2.symm.trans e)
        · rw [e2] at e; simp at e; omega
      have e5 : (pre ++ [x]).length = pre.length + 1 := by simp
      have e6 : strs (pre ++ [x]) = strs pre ++ [str x] := by simp [strs]
      rw [e5, e6]
      exact ownsRow_keep hrow1 (fun k hk => Below.heap_setCell _ _ _ k (fun e => hne (by rw [hk, e])))
    · intro e
      rcases hblk with e2 | e2
      · exact h3 (e2.symm.trans e)
      · rw [e2] at e; simp at e; omega
    · rintro k (e | e)
      · exact .inl (.inl e)
      · exact (hm k e).imp_left (h4 k).1
  case done =>
    rintro D1 O2 W hD1 hO2 ⟨v, h1, h2, h3, h4⟩ hc2 hs2 hk
    have hcl : W.cell? ⟨w.heap.size, 0, none⟩ = some v := by simp [World.cell?, h1]
    obtain ⟨a, cap, rfl, _⟩ := row_slice h2
    gi_wp2
    refine ⟨by simp, .inl ⟨_, _, rfl, run_takeDeferred hk, ?_⟩⟩
    have hD1l : D1 < W.heap.size := (Array.getElem?_eq_some_iff.1 hk).1
    have hc4 : Ch (fun k => k = D1) W (W.putObj D1 (.deferred none)) := Ch.put _ _ _ rfl
    refine ⟨_, results_tmp rfl _ _ _, .slice a xs.length cap, rfl, ownsRow_keep h2 (fun k hk2 => hc4.same k (ownsRow_lt h2 hk2) (fun e => hO2 ((h4 _).2 (.inr (e ▸ hk2))))), ?_, fun k hk2 => ?_⟩
    · exact hc0.trans (O1 := fun k => w.heap.size ≤ k) ((hc2.mono (fun k e => by omega)).trans hc4 (fun k e => .inl (by omega))) (fun k h => .inr h)
    · rcases hs2 k ((h4 k).2 (.inr hk2)) with e | e
      · exact absurd (e ▸ hk2) h3
      · omega
end Go.Proofs.Ytcogpcalghfghaa

namespace Go.Proofs.Ytcogpcalghfghaa
open Go.RowKit
namespace Un
abbrev Bag := List (Nm × Nat)
def addS (b : Bag) (s : Nm) : Bag := match b.getLast? with
  | some p => if p.1 = s then b.dropLast ++ [(p.1, p.2 + 1)] else b ++ [(s, 1)]
  | none => [(s, 1)]
def bagL (o : List Nm) : Bag := o.foldl addS []
theorem last_snoc {α : Type} {l : List α} {p : α} (h : l.getLast? = some p) : l = l.dropLast ++ [p] := by
  obtain ⟨ys, rfl⟩ := List.getLast?_eq_some_iff.1 h
  simp
theorem addS_flat (b : Bag) (s : Nm) : flat (addS b s) = flat b ++ [s] := by
  unfold addS
  cases hb : b.getLast? with
  | none =>
    have : b = [] := List.getLast?_eq_none_iff.1 hb
    subst this
    rfl
  | some p =>
    have hne : b ≠ [] := fun e => by rw [e] at hb; cases hb
    have hd : b = b.dropLast ++ [p] := last_snoc hb
    simp only
    split
    · rename_i e
      subst e
      conv => rhs; rw [hd]
      simp only [flat, List.flatMap_append, List.flatMap_cons, List.flatMap_nil, List.append_nil, List.append_assoc]
      rw [List.replicate_succ']
    · simp [flat]
theorem bagL_snoc (o : List Nm) (s : Nm) : bagL (o ++ [s]) = addS (bagL o) s := by simp [bagL, List.foldl_append]
theorem mem_flat {b : Bag} (h : ∀ s ∈ b, 1 ≤ s.2) {p : Nm × Nat} (hp : p ∈ b) : p.1 ∈ flat b := by
  unfold flat
  rw [List.mem_flatMap]
  refine ⟨p, hp, ?_⟩
  rw [List.mem_replicate]
  exact ⟨by have := h p hp; omega, rfl⟩
theorem addS_ok {b : Bag} {s : Nm} (h : BagOK b) (hs : ∀ x ∈ flat b, x ≤ s) : BagOK (addS b s) := by
  unfold addS
  cases hb : b.getLast? with
  | none => exact ⟨List.pairwise_singleton _ _, fun t ht => by simp at ht; subst ht; exact Nat.le_refl _⟩
  | some p =>
    have hd : b = b.dropLast ++ [p] := last_snoc hb
    simp only
    split
    · rename_i e
      have h1 := h.1
      rw [hd] at h1
      obtain ⟨q1, _, q3⟩ := List.pairwise_append.1 h1
      refine ⟨List.pairwise_append.2 ⟨q1, List.pairwise_singleton _ _, fun x hx y hy => ?_⟩, fun t ht => ?_⟩
      · obtain rfl := List.mem_singleton.1 hy
        exact q3 x hx p (by simp)
      · rcases List.mem_append.1 ht with ht | ht
        · exact h.2 t (by rw [hd]; simp [ht])
        · obtain rfl := List.mem_singleton.1 ht
          simp
    · rename_i e
      refine ⟨List.pairwise_append.2 ⟨h.1, List.pairwise_singleton _ _, fun x hx y hy => ?_⟩, fun t ht => ?_⟩
      · obtain rfl := List.mem_singleton.1 hy
        have hle : p.1 ≤ s := hs p.1 (mem_flat h.2 (by rw [hd]; simp))
        have hps : p.1 < s := by
          rcases Decidable.em (p.1 < s) with h1 | h1
          · exact h1
          · exact absurd (List.le_antisymm hle (List.not_lt.1 h1)) e
        have h1 := h.1
        rw [hd] at h1 hx
        obtain ⟨_, _, q3⟩ := List.pairwise_append.1 h1
        rcases List.mem_append.1 hx with hx | hx
        · exact List.lt_trans (q3 x hx p (by simp)) hps
        · obtain rfl := List.mem_singleton.1 hx
          exact hps
      · rcases List.mem_append.1 ht with ht | ht
        · exact h.2 t ht
        · obtain rfl := List.mem_singleton.1 ht
          exact Nat.le_refl _
theorem bagL_any : ∀ (n : Nat) (o : List Nm), o.length = n → Srt o → flat (bagL o) = o ∧ BagOK (bagL o) := by
  intro n
  induction n with
  | zero =>
    intro o h _
    obtain rfl := List.length_eq_zero_iff.1 h
    exact ⟨rfl, List.Pairwise.nil, fun s hs => by cases hs⟩
  | succ n ih =>
    intro o h hs
    have hne : o ≠ [] := fun e => by rw [e] at h; cases h
    obtain ⟨r, s, rfl⟩ : ∃ r s, o = r ++ [s] := ⟨o.dropLast, o.getLast hne, (List.dropLast_concat_getLast hne).symm⟩
    obtain ⟨q1, _, q3⟩ := List.pairwise_append.1 hs
    obtain ⟨i1, i2⟩ := ih r (by simp at h; exact h) q1
    rw [bagL_snoc]
    refine ⟨by rw [addS_flat, i1], addS_ok i2 (fun x hx => ?_)⟩
    rw [i1] at hx
    exact q3 x hx s (by simp)
theorem bagL_len : ∀ (n : Nat) (o : List Nm), o.length = n → (bagL o).length ≤ n := by
  intro n
  induction n with
  | zero =>
    intro o h
    obtain rfl := List.length_eq_zero_iff.1 h
    exact Nat.le_refl _
  | succ n ih =>
    intro o h
    have hne : o ≠ [] := fun e => by rw [e] at h; cases h
    obtain ⟨r, s, rfl⟩ : ∃ r s, o = r ++ [s] := ⟨o.dropLast, o.getLast hne, (List.dropLast_concat_getLast hne).symm⟩
    have i1 := ih r (by simp at h; exact h)
    rw [bagL_snoc]
    unfold addS
    cases hb : (bagL r).getLast? with
    | none => simp
    | some p =>
      have hd : bagL r = (bagL r).dropLast ++ [p] := last_snoc hb
      simp only
      split
      · have h2 : (bagL r).length = (bagL r).dropLast.length + 1 := by
          have := congrArg List.length hd
          rw [List.length_append] at this
          simpa using this
        rw [List.length_append]
        simp only [List.length_singleton]
        omega
      · simp; omega
theorem bagL_flat_len : ∀ (n : Nat) (o : List Nm), o.length = n → (flat (bagL o)).length = n := by
  intro n
  induction n with
  | zero =>
    intro o h
    obtain rfl := List.length_eq_zero_iff.1 h
    rfl
  | succ n ih =>
    intro o h
    have hne : o ≠ [] := fun e => by rw [e] at h; cases h
    obtain ⟨r, s, rfl⟩ : ∃ r s, o = r ++ [s] := ⟨o.dropLast, o.getLast hne, (List.dropLast_concat_getLast hne).symm⟩
    rw [bagL_snoc, addS_flat, List.length_append, ih r (by simp at h; exact h)]
    rfl
theorem mem_le_flat : ∀ {b : Bag} {p : Nm × Nat}, p ∈ b → p.2 ≤ (flat b).length := by
  intro b
  induction b with
  | nil => intro p h; cases h
  | cons s b ih =>
    intro p h
    show p.2 ≤ (List.replicate s.2 s.1 ++ flat b).length
    rw [List.length_append, List.length_replicate]
    rcases List.mem_cons.1 h with rfl | h
    · omega
    · have := ih h; omega
end Un
open Un (Bag)
def shC (b : Bag) : List Value := b.flatMap fun s => [str s.1, .int .i64 (s.2 : Nat)]
theorem shC_len (b : Bag) : (shC b).length = b.length * 2 := by
  induction b with
  | nil => rfl
  | cons s r ih => simp [shC] at ih ⊢; omega
theorem shC_at : ∀ {b : Bag} {i : Nat} {s : Un.Nm × Nat}, b[i]? = some s → (shC b)[i * 2]? = some (str s.1) ∧ (shC b)[i * 2 + 1]? = some (.int .i64 (s.2 : Nat)) := by
  intro b
  induction b with
  | nil => intro i s h; simp at h
  | cons x b ih =>
    intro i s h
    cases i with
    | zero => simp at h; subst h; simp [shC]
    | succ i =>
      have h1 := ih (i := i) (s := s) (by simpa using h)
      have e : shC (x :: b) = [str x.1, .int .i64 (x.2 : Nat)] ++ shC b := rfl
      rw [e, List.getElem?_append_right (by simp; omega), List.getElem?_append_right (by simp; omega)]
      simp only [List.length_cons, List.length_nil]
      rw [show (i + 1) * 2 - (0 + 1 + 1) = i * 2 by omega, show (i + 1) * 2 + 1 - (0 + 1 + 1) = i * 2 + 1 by omega]
      exact h1
/-- A bag in a slice. -/
def BagV (w : World) (v : Value) (b : Bag) : Prop := ∃ a c, v = .slice a b.length c ∧ (b ≠ [] → ∃ g k, a = some ⟨g, k, none⟩ ∧ ∀ i s, b[i]? = some s → w.cell? ⟨g, k + i * 2, none⟩ = some (str s.1) ∧ w.cell? ⟨g, k + i * 2 + 1, none⟩ = some (.int .i64 (s.2 : Nat)))
theorem BagV.keep {w w' : World} {v : Value} {b : Bag} (h : BagV w v b) {O : Nat → Prop} (hc : Ch O w w') (ho : ∀ k, v.ownBlock = some k → ¬ O k) : BagV w' v b := by
  obtain ⟨a, c, rfl, h1⟩ := h
  refine ⟨a, c, rfl, fun h0 => ?_⟩
  obtain ⟨g, k, rfl, h2⟩ := h1 h0
  refine ⟨g, k, rfl, fun i s hs => ?_⟩
  obtain ⟨c1, c2⟩ := h2 i s hs
  have hg := World.block_lt_of_cell? w _ c1
  exact ⟨(hc.cell (p := ⟨g, k + i * 2, none⟩) hg (ho g rfl)).trans c1, (hc.cell (p := ⟨g, k + i * 2 + 1, none⟩) hg (ho g rfl)).trans c2⟩
/-- A bag in blocks of its own that are new. -/
def BagF (w w' : World) (v : Value) (b : Bag) : Prop := w'.ownsRow 0 99 2 v b.length (shC b) ∧ Ch (fun _ => False) w w' ∧ ∀ k, v.ownBlock = some k → w.heap.size ≤ k
theorem BagV.of_row {w : World} {v : Value} {b : Bag} (h : w.ownsRow 0 99 2 v b.length (shC b)) : BagV w v b := by
  obtain ⟨a, c, rfl, h1, h2⟩ := row_slice h
  refine ⟨a, c, rfl, fun h0 => ?_⟩
  rcases h1 with h1 | ⟨g, rfl⟩
  · exact absurd (List.length_eq_zero_iff.1 h1) h0
  · refine ⟨g, 0, rfl, fun i s hs => ?_⟩
    obtain ⟨e1, e2⟩ := shC_at hs
    rw [Nat.zero_add]
    exact ⟨row_cell h _ _ e1, row_cell h _ _ e2⟩
theorem BagF.v {w w' : World} {v : Value} {b : Bag} (h : BagF w w' v b) : BagV w' v b := BagV.of_row h.1
theorem BagF.nil (w : World) : BagF w w (.slice none 0 0) [] := ⟨World.ownsRow_nil _ _ _ _, Ch.refl _ _, fun k h => by cases h⟩
theorem BagF.quiet {w w' w2 : World} {v : Value} {b : Bag} (h : BagF w w' v b) (hc : Ch (fun _ => False) w' w2) : BagF w w2 v b :=
  ⟨ownsRow_keep h.1 (fun k hk => hc.same k (ownsRow_lt h.1 hk) (fun h => h)), h.2.1.trans hc (fun _ h => h.elim), h.2.2⟩
theorem Try.infoShare : (Try.prog.info? 99).map (fun i => (i.zero, i.size, i.bytes)) = some (some (.agg #[.string ⟨#[]⟩, .int .i64 0]), 2, 24) := by kernel_rfl
theorem new_share (w : World) (s : List UInt8) (n : Int) : ∀ j u, ([str s, .int .i64 n] : List Value)[j]? = some u → (w.alloc (.cells #[str s, .int .i64 n] 99)).cell? ((⟨w.heap.size, 0, none⟩ : Addr).add j) = some u := by
  intro j u hj
  have hb := World.alloc_heap_new w (.cells #[str s, .int .i64 n] 99)
  rw [show (⟨w.heap.size, 0, none⟩ : Addr).add j = ⟨w.heap.size, j, none⟩ by simp [Addr.add]; omega]
  simp only [World.cell?, hb]
  simpa using hj
theorem shC_snoc (b : Bag) (s : Un.Nm × Nat) : shC (b ++ [s]) = shC b ++ [str s.1, .int .i64 (s.2 : Nat)] := by simp [shC]
theorem BagF.more {w w' w1 : World} {v v' : Value} {b : Bag} {s : Un.Nm × Nat} (h : BagF w w' v b) (hrow : w1.ownsRow 0 99 2 v' (b.length + 1) (shC b ++ [str s.1, .int .i64 (s.2 : Nat)])) (hgrow : w'.grownBy w1 v.ownBlock) (hblk : v'.ownBlock = v.ownBlock ∨ v'.ownBlock = some w'.heap.size) : BagF w w1 v' (b ++ [s]) := by
  refine ⟨by rw [shC_snoc]; simpa using hrow, h.2.1.trans (Ch.grown (O := fun k => v.ownBlock = some k) hgrow (fun k hk => hk)) (fun k hk => .inr (h.2.2 k hk)), fun k hk => ?_⟩
  rcases hblk with e | e
  · exact h.2.2 k (e.symm.trans hk)
  · rw [e] at hk; cases hk; exact h.2.1.size
end Go.Proofs.Ytcogpcalghfghaa
