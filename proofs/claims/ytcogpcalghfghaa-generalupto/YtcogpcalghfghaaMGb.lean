/-
  Types while they are made the same, as a graph of numbers: what stands for what; plain laws, no program is named here.
  How many parts a type has that does not stand within itself; how it is told; plain laws, no program is named here.
  How types are put into the graph, and what is answered of pairs; plain laws, no program is named here.
  There is one answer; a type that ends is told; plain laws, no program is named here.
-/
import Derived.Test.YtcogpcalghfghaaGa
set_option linter.unusedVariables false
set_option linter.unusedSimpArgs false
namespace Go.Proofs.Ytcogpcalghfghaa
namespace Un

/-- Nodes 0 to n - 1, of which some stand for the same (rep); row variables 0 to m - 1, and what they stand for by now (W): names, and perhaps a variable that stands for nothing yet. -/
structure Gr where
  n : Nat
  kind : Nat → Nat
  kids : Nat → List Nat
  ops : Nat → List Nm
  rv : Nat → Option Nat
  rep : Nat → Nat
  m : Nat
  W : Nat → List Nm × Option Nat

namespace Gr
/-- All names of a node's row, and its variable. -/
def whole (G : Gr) (i : Nat) : List Nm × Option Nat :=
  match G.rv i with
  | none => (G.ops i, none)
  | some r => (joinB (G.ops i) (G.W r).1, (G.W r).2)
def link (G : Gr) (a b : Nat) : Gr := { G with rep := fun i => if G.rep i = a then b else G.rep i }
def stands (G : Gr) (v : Nat) (e : List Nm) (x : Option Nat) : Gr := { G with W := fun r => if (G.W r).2 = some v then (joinB (G.W r).1 e, x) else G.W r }
def opened (G : Gr) : Gr := { G with m := G.m + 1, W := fun r => if r = G.m then ([], some G.m) else G.W r }
/-- Two rows are made the same. -/
def sameRow (G : Gr) (i j : Nat) : Option Gr :=
  let a := G.whole i
  let b := G.whole j
  let d := less a.1 b.1
  let e := less b.1 a.1
  if a.2 = b.2 then (if d = [] ∧ e = [] then some G else none)
  else
    match a.2, b.2 with
    | none, some w => if e = [] then some (G.stands w d none) else none
    | some v, none => if d = [] then some (G.stands v e none) else none
    | some v, some w => some ((G.opened.stands v e (some G.m)).stands w d (some G.m))
    | none, none => none
def each (u : Gr → Nat → Nat → Option Gr) : List Nat → List Nat → Gr → Option Gr
  | a :: l, b :: r, G => (u G a b).bind (each u l r)
  | _, _, G => some G
/-- Two types are made the same; the first number bounds how many links are laid one within the other. -/
def uni : Nat → Gr → Nat → Nat → Option Gr
  | 0, _, _, _ => none
  | k + 1, G, a, b =>
    if G.rep a = G.rep b then some G
    else if G.kind (G.rep a) = 0 then some (G.link (G.rep a) (G.rep b))
    else if G.kind (G.rep b) = 0 then some (G.link (G.rep b) (G.rep a))
    else if G.kind (G.rep a) ≠ G.kind (G.rep b) then none
    else (each (uni k) (G.kids (G.rep a)) (G.kids (G.rep b)) (G.link (G.rep a) (G.rep b))).bind fun H => H.sameRow (G.rep a) (G.rep b)

def arity (k : Nat) : Nat := if k = 4 then 1 else if k = 5 ∨ k = 6 then 2 else 0
/-- What holds of a graph always. -/
structure OK (G : Gr) : Prop where
  rep_lt : ∀ i, i < G.n → G.rep i < G.n
  rep_rep : ∀ i, i < G.n → G.rep (G.rep i) = G.rep i
  kind_le : ∀ i, i < G.n → G.kind i ≤ 6
  kind_rep : ∀ i, i < G.n → G.kind i ≠ 0 → G.kind (G.rep i) = G.kind i
  kids_len : ∀ i, i < G.n → (G.kids i).length = arity (G.kind i)
  kids_lt : ∀ i, i < G.n → ∀ j ∈ G.kids i, j < G.n
  row_none : ∀ i, i < G.n → G.kind i ≠ 6 → G.ops i = [] ∧ G.rv i = none
  ops_srt : ∀ i, i < G.n → Srt (G.ops i)
  rv_lt : ∀ i, i < G.n → ∀ r, G.rv i = some r → r < G.m
  W_srt : ∀ r, r < G.m → Srt (G.W r).1
  W_lt : ∀ r, r < G.m → ∀ v, (G.W r).2 = some v → v < G.m ∧ G.W v = ([], some v)

/-- How many nodes stand for themselves. -/
def roots (G : Gr) : Nat := ((List.range G.n).filter fun i => G.rep i == i).length
/-- What later graphs keep of an earlier one. -/
structure Ext (G H : Gr) : Prop where
  n : H.n = G.n
  kind : H.kind = G.kind
  kids : H.kids = G.kids
  ops : H.ops = G.ops
  rv : H.rv = G.rv
  m : G.m ≤ H.m
  rep : ∀ i, i < G.n → H.rep i = H.rep (G.rep i)
  roots : H.roots ≤ G.roots
theorem Ext.refl {G : Gr} (h : G.OK) : Ext G G := ⟨rfl, rfl, rfl, rfl, rfl, Nat.le_refl _, fun i hi => (h.rep_rep i hi).symm, Nat.le_refl _⟩
theorem Ext.trans {G H K : Gr} (hG : G.OK) (h : Ext G H) (h' : Ext H K) : Ext G K :=
  ⟨h'.n.trans h.n, h'.kind.trans h.kind, h'.kids.trans h.kids, h'.ops.trans h.ops, h'.rv.trans h.rv, Nat.le_trans h.m h'.m, fun i hi => by
    rw [h'.rep i (by rw [h.n]; exact hi), h'.rep (G.rep i) (by rw [h.n]; exact hG.rep_lt i hi), h.rep i hi], Nat.le_trans h'.roots h.roots⟩

theorem filter_lt {p q : Nat → Bool} {a : Nat} : ∀ (l : List Nat), (∀ i ∈ l, q i = true → p i = true) → a ∈ l → p a = true → q a = false → (l.filter q).length < (l.filter p).length := by
  intro l
  induction l with
  | nil => intro _ h; cases h
  | cons x l ih =>
    intro h ha hp hq
    have hle : (l.filter q).length ≤ (l.filter p).length := by
      clear ih ha
      induction l with
      | nil => simp
      | cons y l ih2 =>
        have i2 := ih2 (fun i hi => h i (by rcases List.mem_cons.1 hi with rfl | hi <;> simp [*]))
        have hy := h y (by simp)
        rw [List.filter_cons, List.filter_cons]
        split
        · rename_i hqy
          rw [if_pos (hy hqy)]
          simpa using i2
        · split
          · simp; omega
          · exact i2
    rcases List.mem_cons.1 ha with rfl | ha
    · rw [List.filter_cons, List.filter_cons, hp, hq]
      simp
      omega
    · have i1 := ih (fun i hi => h i (by simp [hi])) ha hp hq
      have hx := h x (by simp)
      rw [List.filter_cons, List.filter_cons]
      split
      · rename_i hqx
        rw [if_pos (hx hqx)]
        simpa using i1
      · split
        · simp; omega
        · exact i1
theorem link_roots {G : Gr} {a b : Nat} (ha : a < G.n) (hra : G.rep a = a) (hrb : G.rep b = b) (hab : a ≠ b) : (G.link a b).roots < G.roots := by
  unfold roots
  refine filter_lt (a := a) _ (fun i hi h => ?_) (by simpa [link] using ha) (by simp [hra]) (by simp [link, hra]; exact fun e => hab e.symm)
  simp only [link, beq_iff_eq] at h ⊢
  split at h
  · rename_i hi2
    subst h
    exact hrb
  · exact h
theorem link_ok {G : Gr} (h : G.OK) {a b : Nat} (hb : b < G.n) (hra : G.rep a = a) (hrb : G.rep b = b) (hab : a ≠ b) (hk : G.kind a = 0 ∨ G.kind a = G.kind b) : (G.link a b).OK where
  rep_lt i hi := by
    show (if G.rep i = a then b else G.rep i) < G.n
    split
    · exact hb
    · exact h.rep_lt i hi
  rep_rep i hi := by
    show (if G.rep (if G.rep i = a then b else G.rep i) = a then b else G.rep (if G.rep i = a then b else G.rep i)) = (if G.rep i = a then b else G.rep i)
    by_cases e : G.rep i = a
    · rw [if_pos e, hrb, if_neg (fun e2 => hab e2.symm)]
    · rw [if_neg e, h.rep_rep i hi, if_neg e]
  kind_le := h.kind_le
  kind_rep i hi h0 := by
    show G.kind (if G.rep i = a then b else G.rep i) = G.kind i
    have hk0 := h.kind_rep i hi h0
    split
    · rename_i he
      rw [he] at hk0
      rcases hk with hk | hk
      · rw [hk] at hk0; exact absurd hk0.symm h0
      · rw [← hk]; exact hk0
    · exact hk0
  kids_len := h.kids_len
  kids_lt := h.kids_lt
  row_none := h.row_none
  ops_srt := h.ops_srt
  rv_lt := h.rv_lt
  W_srt := h.W_srt
  W_lt := h.W_lt
theorem link_ext {G : Gr} (h : G.OK) {a b : Nat} (ha : a < G.n) (hra : G.rep a = a) (hrb : G.rep b = b) (hab : a ≠ b) : Ext G (G.link a b) :=
  ⟨rfl, rfl, rfl, rfl, rfl, Nat.le_refl _, fun i hi => by
    show (if G.rep i = a then b else G.rep i) = (if G.rep (G.rep i) = a then b else G.rep (G.rep i))
    rw [h.rep_rep i hi], Nat.le_of_lt (link_roots ha hra hrb hab)⟩
theorem stands_ok {G : Gr} (h : G.OK) {v : Nat} {e : List Nm} {x : Option Nat} (hv : v < G.m) (hx : ∀ y, x = some y → y < G.m ∧ y ≠ v ∧ G.W y = ([], some y)) : (G.stands v e x).OK where
  rep_lt := h.rep_lt
  rep_rep := h.rep_rep
  kind_le := h.kind_le
  kind_rep := h.kind_rep
  kids_len := h.kids_len
  kids_lt := h.kids_lt
  row_none := h.row_none
  ops_srt := h.ops_srt
  rv_lt := h.rv_lt
  W_srt r hr := by
    show Srt (if (G.W r).2 = some v then (joinB (G.W r).1 e, x) else G.W r).1
    split
    · exact joinB_srt _ _ (h.W_srt r hr)
    · exact h.W_srt r hr
  W_lt r hr y hy := by
    have hy' : (if (G.W r).2 = some v then (joinB (G.W r).1 e, x) else G.W r).2 = some y := hy
    show y < G.m ∧ (if (G.W y).2 = some v then (joinB (G.W y).1 e, x) else G.W y) = ([], some y)
    by_cases e1 : (G.W r).2 = some v
    · rw [if_pos e1] at hy'
      obtain ⟨h1, h2, h3⟩ := hx y hy'
      refine ⟨h1, ?_⟩
      rw [h3, if_neg (fun e2 => h2 (Option.some.inj e2))]
    · rw [if_neg e1] at hy'
      obtain ⟨h1, h2⟩ := h.W_lt r hr y hy'
      refine ⟨h1, ?_⟩
      rw [h2, if_neg]
      intro e2
      have : y = v := Option.some.inj e2
      subst this
      exact e1 hy'
theorem stands_ext {G : Gr} (h : G.OK) {v : Nat} {e : List Nm} {x : Option Nat} : Ext G (G.stands v e x) :=
  ⟨rfl, rfl, rfl, rfl, rfl, Nat.le_refl _, fun i hi => (h.rep_rep i hi).symm, Nat.le_refl _⟩
theorem opened_ok {G : Gr} (h : G.OK) : G.opened.OK where
  rep_lt := h.rep_lt
  rep_rep := h.rep_rep
  kind_le := h.kind_le
  kind_rep := h.kind_rep
  kids_len := h.kids_len
  kids_lt := h.kids_lt
  row_none := h.row_none
  ops_srt := h.ops_srt
  rv_lt i hi r hr := Nat.lt_succ_of_lt (h.rv_lt i hi r hr)
  W_srt r hr := by
    show Srt (if r = G.m then ([], some G.m) else G.W r).1
    by_cases e : r = G.m
    · rw [if_pos e]; exact List.Pairwise.nil
    · rw [if_neg e]
      have : r < G.m + 1 := hr
      exact h.W_srt r (by omega)
  W_lt r hr y hy := by
    have hy' : (if r = G.m then ([], some G.m) else G.W r).2 = some y := hy
    have hr' : r < G.m + 1 := hr
    show y < G.m + 1 ∧ (if y = G.m then ([], some G.m) else G.W y) = ([], some y)
    by_cases e : r = G.m
    · rw [if_pos e] at hy'
      have : G.m = y := Option.some.inj hy'
      subst this
      exact ⟨Nat.lt_succ_self _, by rw [if_pos rfl]⟩
    · rw [if_neg e] at hy'
      obtain ⟨h1, h2⟩ := h.W_lt r (by omega) y hy'
      exact ⟨Nat.lt_succ_of_lt h1, by rw [if_neg (by omega), h2]⟩
theorem opened_ext {G : Gr} (h : G.OK) : Ext G G.opened :=
  ⟨rfl, rfl, rfl, rfl, rfl, Nat.le_succ _, fun i hi => (h.rep_rep i hi).symm, Nat.le_refl _⟩
theorem opened_new (G : Gr) : G.opened.W G.m = ([], some G.m) := by
  show (if G.m = G.m then ([], some G.m) else G.W G.m) = _
  rw [if_pos rfl]
theorem opened_old {G : Gr} {r : Nat} (hr : r < G.m) : G.opened.W r = G.W r := by
  show (if r = G.m then ([], some G.m) else G.W r) = _
  rw [if_neg (by omega)]
theorem whole_some {G : Gr} (h : G.OK) {i v : Nat} (hi : i < G.n) (hw : (G.whole i).2 = some v) : v < G.m ∧ G.W v = ([], some v) := by
  unfold whole at hw
  cases hr : G.rv i with
  | none => rw [hr] at hw; cases hw
  | some r => rw [hr] at hw; exact h.W_lt r (h.rv_lt i hi r hr) v hw
theorem sameRow_ok {G H : Gr} (h : G.OK) {i j : Nat} (hi : i < G.n) (hj : j < G.n) (hs : G.sameRow i j = some H) : H.OK ∧ Ext G H := by
  unfold sameRow at hs
  simp only at hs
  by_cases e : (G.whole i).2 = (G.whole j).2
  · rw [if_pos e] at hs
    split at hs
    · obtain rfl := Option.some.inj hs
      exact ⟨h, Ext.refl h⟩
    · cases hs
  · rw [if_neg e] at hs
    cases hv : (G.whole i).2 with
    | none =>
      cases hw : (G.whole j).2 with
      | none => rw [hv, hw] at e; exact absurd rfl e
      | some w =>
        rw [hv, hw] at hs
        simp only at hs
        split at hs
        · obtain rfl := Option.some.inj hs
          exact ⟨stands_ok h (whole_some h hj hw).1 (fun y hy => by cases hy), stands_ext h⟩
        · cases hs
    | some v =>
      cases hw : (G.whole j).2 with
      | none =>
        rw [hv, hw] at hs
        simp only at hs
        split at hs
        · obtain rfl := Option.some.inj hs
          exact ⟨stands_ok h (whole_some h hi hv).1 (fun y hy => by cases hy), stands_ext h⟩
        · cases hs
      | some w =>
        rw [hv, hw] at hs
        simp only at hs
        obtain rfl := Option.some.inj hs
        obtain ⟨v1, v2⟩ := whole_some h hi hv
        obtain ⟨w1, w2⟩ := whole_some h hj hw
        have hvw : v ≠ w := fun e2 => e (by rw [hv, hw, e2])
        have o1 := opened_ok h
        have s1 := stands_ok (v := v) (e := less (G.whole j).1 (G.whole i).1) (x := some G.m) o1 (Nat.lt_succ_of_lt v1) (fun y hy => by
          obtain rfl := Option.some.inj hy
          exact ⟨Nat.lt_succ_self _, by omega, opened_new G⟩)
        refine ⟨stands_ok s1 (Nat.lt_succ_of_lt w1) (fun y hy => ?_), ?_⟩
        · obtain rfl := Option.some.inj hy
          refine ⟨Nat.lt_succ_self _, by omega, ?_⟩
          show (if (G.opened.W G.m).2 = some v then (joinB (G.opened.W G.m).1 (less (G.whole j).1 (G.whole i).1), some G.m) else G.opened.W G.m) = _
          rw [opened_new G, if_neg]
          intro e2
          have : G.m = v := Option.some.inj e2
          omega
        · exact Ext.trans h (opened_ext h) (Ext.trans o1 (stands_ext o1) (stands_ext s1))
theorem each_ok {u : Gr → Nat → Nat → Option Gr} (P : Gr → Prop) (hu : ∀ G a b H, G.OK → P G → a < G.n → b < G.n → u G a b = some H → H.OK ∧ Ext G H ∧ P H) :
    ∀ (l r : List Nat) (G H : Gr), G.OK → P G → (∀ a ∈ l, a < G.n) → (∀ b ∈ r, b < G.n) → each u l r G = some H → H.OK ∧ Ext G H ∧ P H := by
  intro l
  induction l with
  | nil => intro r G H h hp _ _ e; obtain rfl := Option.some.inj e; exact ⟨h, Ext.refl h, hp⟩
  | cons a l ih =>
    intro r G H h hp hl hr e
    cases r with
    | nil => obtain rfl := Option.some.inj e; exact ⟨h, Ext.refl h, hp⟩
    | cons b r =>
      unfold each at e
      cases hx : u G a b with
      | none => rw [hx] at e; cases e
      | some K =>
        rw [hx] at e
        obtain ⟨k1, k2, k3⟩ := hu G a b K h hp (hl a (by simp)) (hr b (by simp)) hx
        obtain ⟨g1, g2, g3⟩ := ih r K H k1 k3 (fun x hx => by rw [k2.n]; exact hl x (by simp [hx])) (fun x hx => by rw [k2.n]; exact hr x (by simp [hx])) e
        exact ⟨g1, Ext.trans h k2 g2, g3⟩
theorem uni_ok : ∀ (k : Nat) (G : Gr) (a b : Nat) (H : Gr), G.OK → a < G.n → b < G.n → uni k G a b = some H → H.OK ∧ Ext G H := by
  intro k
  induction k with
  | zero => intro G a b H _ _ _ e; cases e
  | succ k ih =>
    intro G a b H h ha hb e
    have hra := h.rep_rep a ha
    have hrb := h.rep_rep b hb
    have hla := h.rep_lt a ha
    have hlb := h.rep_lt b hb
    unfold uni at e
    split at e
    · obtain rfl := Option.some.inj e
      exact ⟨h, Ext.refl h⟩
    · rename_i hab
      split at e
      · rename_i hk
        obtain rfl := Option.some.inj e
        exact ⟨link_ok h hlb hra hrb hab (.inl hk), link_ext h hla hra hrb hab⟩
      · split at e
        · rename_i hk
          obtain rfl := Option.some.inj e
          exact ⟨link_ok h hla hrb hra (fun e2 => hab e2.symm) (.inl hk), link_ext h hlb hrb hra (fun e2 => hab e2.symm)⟩
        · split at e
          · cases e
          · rename_i hk
            have hk' : G.kind (G.rep a) = G.kind (G.rep b) := by simpa using hk
            have l1 := link_ok h hlb hra hrb hab (.inr hk')
            have l2 := link_ext h hla hra hrb hab
            cases hx : each (uni k) (G.kids (G.rep a)) (G.kids (G.rep b)) (G.link (G.rep a) (G.rep b)) with
            | none => rw [hx] at e; cases e
            | some K =>
              rw [hx] at e
              obtain ⟨k1, k2, _⟩ := each_ok (fun _ => True) (fun G a b H h1 _ h2 h3 h4 => ⟨(ih G a b H h1 h2 h3 h4).1, (ih G a b H h1 h2 h3 h4).2, trivial⟩) _ _ _ K l1 trivial (h.kids_lt _ hla) (h.kids_lt _ hlb) hx
              have hn : K.n = G.n := k2.n
              obtain ⟨s1, s2⟩ := sameRow_ok k1 (by rw [hn]; exact hla) (by rw [hn]; exact hlb) e
              exact ⟨s1, Ext.trans h l2 (Ext.trans l1 k2 s2)⟩
end Gr
end Un
end Go.Proofs.Ytcogpcalghfghaa

namespace Go.Proofs.Ytcogpcalghfghaa
namespace Un
namespace Gr

def sumO (f : Nat → Option Nat) : List Nat → Option Nat
  | [] => some 0
  | a :: l => (f a).bind fun x => (sumO f l).map (x + ·)
/-- How many parts: the first number bounds how deep they stand. -/
def sz (G : Gr) : Nat → Nat → Option Nat
  | 0, _ => none
  | k + 1, i => (sumO (G.sz k) (G.kids (G.rep i))).map fun s => 1 + s + (G.whole (G.rep i)).1.length
theorem sumO_mono {f g : Nat → Option Nat} : ∀ {l : List Nat} {s : Nat}, (∀ a ∈ l, ∀ x, f a = some x → g a = some x) → sumO f l = some s → sumO g l = some s := by
  intro l
  induction l with
  | nil => intro s _ h; exact h
  | cons a l ih =>
    intro s hf h
    unfold sumO at h ⊢
    cases hx : f a with
    | none => rw [hx] at h; cases h
    | some x =>
      rw [hx] at h
      rw [hf a (by simp) x hx]
      cases hy : sumO f l with
      | none => rw [hy] at h; cases h
      | some y =>
        rw [hy] at h
        rw [ih (fun b hb => hf b (by simp [hb])) hy]
        exact h
theorem sumO_mem {f : Nat → Option Nat} : ∀ {l : List Nat} {s : Nat}, sumO f l = some s → ∀ a ∈ l, ∃ x, f a = some x := by
  intro l
  induction l with
  | nil => intro s _ a ha; cases ha
  | cons b l ih =>
    intro s h a ha
    unfold sumO at h
    cases hx : f b with
    | none => rw [hx] at h; cases h
    | some x =>
      rw [hx] at h
      cases hy : sumO f l with
      | none => rw [hy] at h; cases h
      | some y =>
        rcases List.mem_cons.1 ha with rfl | ha
        · exact ⟨x, hx⟩
        · exact ih hy a ha
variable {G : Gr}
theorem sz_up : ∀ {k i s : Nat}, G.sz k i = some s → G.sz (k + 1) i = some s := by
  intro k
  induction k with
  | zero => intro i s h; cases h
  | succ k ih =>
    intro i s h
    unfold sz at h ⊢
    cases hx : sumO (G.sz k) (G.kids (G.rep i)) with
    | none => rw [hx] at h; cases h
    | some x =>
      rw [hx] at h
      rw [sumO_mono (fun a _ x hx => ih hx) hx]
      exact h
theorem sz_le {k l i s : Nat} (h : G.sz k i = some s) (hl : k ≤ l) : G.sz l i = some s := by
  induction l with
  | zero =>
    have : k = 0 := by omega
    subst this
    exact h
  | succ l ih =>
    by_cases e : k = l + 1
    · subst e; exact h
    · exact sz_up (ih (by omega))
/-- A type has so many parts. -/
def Parts (G : Gr) (i s : Nat) : Prop := ∃ k, G.sz k i = some s
/-- A type does not stand within itself. -/
def Ends (G : Gr) (i : Nat) : Prop := ∃ s, G.Parts i s
theorem Parts.one {i s t : Nat} (h : G.Parts i s) (h' : G.Parts i t) : s = t := by
  obtain ⟨k, h⟩ := h
  obtain ⟨l, h'⟩ := h'
  have e1 := sz_le h (Nat.le_max_left k l)
  have e2 := sz_le h' (Nat.le_max_right k l)
  exact Option.some.inj (e1.symm.trans e2)
theorem sz_rep (hG : G.OK) {i j : Nat} (h : G.rep i = G.rep j) (k : Nat) : G.sz k i = G.sz k j := by
  cases k with
  | zero => rfl
  | succ k => unfold sz; rw [h]
theorem Ends.of_rep (hG : G.OK) {i j : Nat} (h : G.rep i = G.rep j) (e : G.Ends i) : G.Ends j := by
  obtain ⟨s, k, h1⟩ := e
  exact ⟨s, k, by rw [← sz_rep hG h]; exact h1⟩
/-- The parts of kids, summed. -/
def SumP (G : Gr) : List Nat → Nat → Prop
  | [], s => s = 0
  | a :: l, s => ∃ x y, G.Parts a x ∧ G.SumP l y ∧ s = x + y
theorem sumP_sum : ∀ {l : List Nat} {s : Nat}, G.SumP l s → ∃ k, sumO (G.sz k) l = some s := by
  intro l
  induction l with
  | nil => intro s h; exact ⟨0, by rw [show s = 0 from h]; rfl⟩
  | cons a l ih =>
    rintro s ⟨x, y, ⟨k, hx⟩, hy, rfl⟩
    obtain ⟨k2, h2⟩ := ih hy
    refine ⟨max k k2, ?_⟩
    unfold sumO
    rw [sz_le hx (Nat.le_max_left k k2), sumO_mono (fun b _ z hz => sz_le hz (Nat.le_max_right k k2)) h2]
    rfl
theorem Parts.mk {i s : Nat} (h : G.SumP (G.kids (G.rep i)) s) : G.Parts i (1 + s + (G.whole (G.rep i)).1.length) := by
  obtain ⟨k, hk⟩ := sumP_sum h
  exact ⟨k + 1, by unfold sz; rw [hk]; rfl⟩
theorem sumP_of {f : Nat → Option Nat} (hf : ∀ a x, f a = some x → G.Parts a x) : ∀ {l : List Nat} {s : Nat}, sumO f l = some s → G.SumP l s := by
  intro l
  induction l with
  | nil => intro s h; exact (Option.some.inj h).symm
  | cons a l ih =>
    intro s h
    unfold sumO at h
    cases hx : f a with
    | none => rw [hx] at h; cases h
    | some x =>
      rw [hx] at h
      cases hy : sumO f l with
      | none => rw [hy] at h; cases h
      | some y =>
        rw [hy] at h
        exact ⟨x, y, hf a x hx, ih hy, (Option.some.inj h).symm⟩
theorem Parts.kids {i s : Nat} (h : G.Parts i s) : ∃ t, G.SumP (G.kids (G.rep i)) t ∧ s = 1 + t + (G.whole (G.rep i)).1.length := by
  obtain ⟨k, h⟩ := h
  cases k with
  | zero => cases h
  | succ k =>
    unfold sz at h
    cases hx : sumO (G.sz k) (G.kids (G.rep i)) with
    | none => rw [hx] at h; cases h
    | some t =>
      rw [hx] at h
      exact ⟨t, sumP_of (fun a x hx => ⟨k, hx⟩) hx, (Option.some.inj h).symm⟩
theorem sumP_ends : ∀ {l : List Nat} {s : Nat}, G.SumP l s → ∀ a ∈ l, G.Ends a := by
  intro l
  induction l with
  | nil => intro s _ a ha; cases ha
  | cons b l ih =>
    rintro s ⟨x, y, hx, hy, _⟩ a ha
    rcases List.mem_cons.1 ha with rfl | ha
    · exact ⟨x, hx⟩
    · exact ih hy a ha
theorem ends_sumP : ∀ {l : List Nat}, (∀ a ∈ l, G.Ends a) → ∃ s, G.SumP l s := by
  intro l
  induction l with
  | nil => intro _; exact ⟨0, rfl⟩
  | cons b l ih =>
    intro h
    obtain ⟨x, hx⟩ := h b (by simp)
    obtain ⟨y, hy⟩ := ih (fun a ha => h a (by simp [ha]))
    exact ⟨x + y, x, y, hx, hy, rfl⟩
theorem ends_iff (i : Nat) : G.Ends i ↔ ∀ a ∈ G.kids (G.rep i), G.Ends a := by
  constructor
  · rintro ⟨s, h⟩
    obtain ⟨t, ht, _⟩ := h.kids
    exact sumP_ends ht
  · intro h
    obtain ⟨s, hs⟩ := ends_sumP h
    exact ⟨_, Parts.mk hs⟩
/-- From a type one comes to another, kid by kid. -/
inductive Rch (G : Gr) : Nat → Nat → Prop where
  | here {a b : Nat} : G.rep a = G.rep b → Rch G a b
  | kid {a j b : Nat} : j ∈ G.kids (G.rep a) → Rch G j b → Rch G a b
theorem Rch.trans (hG : G.OK) {a b c : Nat} (h : G.Rch a b) : G.Rch b c → G.Rch a c := by
  induction h with
  | here e =>
    intro h2
    cases h2 with
    | here e2 => exact .here (e.trans e2)
    | kid hj h3 => exact .kid (by rw [e]; exact hj) h3
  | kid hj _ ih => intro h2; exact .kid hj (ih h2)
theorem Rch.sz (hG : G.OK) {a b : Nat} (h : G.Rch a b) : ∀ {k s : Nat}, G.sz k a = some s → ∃ t, G.sz k b = some t := by
  induction h with
  | here e => intro k s h; exact ⟨s, by rw [← sz_rep hG e]; exact h⟩
  | kid hj _ ih =>
    intro k s h
    cases k with
    | zero => cases h
    | succ k =>
      unfold Gr.sz at h
      rename_i a j b _
      cases hx : sumO (G.sz k) (G.kids (G.rep a)) with
      | none => rw [hx] at h; cases h
      | some t =>
        obtain ⟨x, hx⟩ := sumO_mem hx j hj
        obtain ⟨y, hy⟩ := ih hx
        exact ⟨y, sz_up hy⟩
/-- What one comes to again has no end. -/
theorem round_no (hG : G.OK) {a j : Nat} (hj : j ∈ G.kids (G.rep a)) (h : G.Rch j a) : ¬ G.Ends a := by
  rintro ⟨s, k, hk⟩
  induction k generalizing s with
  | zero => cases hk
  | succ k ih =>
    unfold Gr.sz at hk
    cases hx : sumO (G.sz k) (G.kids (G.rep a)) with
    | none => rw [hx] at hk; cases hk
    | some t =>
      obtain ⟨x, hx⟩ := sumO_mem hx j hj
      obtain ⟨y, hy⟩ := h.sz hG hx
      exact ih y hy

/- how types are told -/
structure Nms where
  t : List Nat
  r : List Nat
def numOf (l : List Nat) (x : Nat) : Nat × List Nat := if x ∈ l then (l.idxOf x + 1, l) else (l.length + 1, l ++ [x])
def rowOf (N : Nms) : Option Nat → Nat × Nms
  | none => (0, N)
  | some v => ((numOf N.r v).1, ⟨N.t, (numOf N.r v).2⟩)
def told (G : Gr) : Nat → Nat → Nms → Option (Ty.P × Nms)
  | 0, _, _ => none
  | k + 1, i, N =>
    let r := G.rep i
    if G.kind r = 0 then some (.var (numOf N.t r).1, ⟨(numOf N.t r).2, N.r⟩)
    else if G.kind r = 1 then some (.int, N)
    else if G.kind r = 2 then some (.bool, N)
    else if G.kind r = 3 then some (.unit, N)
    else if G.kind r = 4 then (G.told k ((G.kids r).getD 0 0) N).map fun x => (.list x.1, x.2)
    else if G.kind r = 5 then (G.told k ((G.kids r).getD 0 0) N).bind fun x => (G.told k ((G.kids r).getD 1 0) x.2).map fun y => (.pair x.1 y.1, y.2)
    else (G.told k ((G.kids r).getD 0 0) N).bind fun x =>
      (G.told k ((G.kids r).getD 1 0) (rowOf x.2 (G.whole r).2).2).map fun y => (.fn x.1 y.1 (G.whole r).1 (rowOf x.2 (G.whole r).2).1, y.2)
end Gr
end Un
end Go.Proofs.Ytcogpcalghfghaa

namespace Go.Proofs.Ytcogpcalghfghaa
namespace Un

/-- The graph, and the node of each type variable that was met. -/
structure St where
  G : Gr
  tv : List (Nat × Nat)
/-- The first number that is no row variable of a type. -/
def big : Nat := 1000000001
def emptyG : Gr := ⟨0, fun _ => 0, fun _ => [], fun _ => [], fun _ => none, fun i => i, big, fun r => ([], some r)⟩
namespace Gr
def add (G : Gr) (k : Nat) (ks : List Nat) (o : List Nm) (r : Option Nat) : Gr :=
  { G with n := G.n + 1, kind := fun i => if i = G.n then k else G.kind i, kids := fun i => if i = G.n then ks else G.kids i, ops := fun i => if i = G.n then o else G.ops i,
           rv := fun i => if i = G.n then r else G.rv i, rep := fun i => if i = G.n then G.n else G.rep i }
theorem add_ok {G : Gr} (h : G.OK) {k : Nat} {ks : List Nat} {o : List Nm} {r : Option Nat} (hk : k ≤ 6) (hl : ks.length = arity k) (hs : ∀ j ∈ ks, j < G.n) (h6 : k ≠ 6 → o = [] ∧ r = none) (ho : Srt o) (hr : ∀ x, r = some x → x < G.m) : (G.add k ks o r).OK where
  rep_lt i hi := by
    have hi' : i < G.n + 1 := hi
    show (if i = G.n then G.n else G.rep i) < G.n + 1
    split
    · omega
    · have := h.rep_lt i (by omega); omega
  rep_rep i hi := by
    have hi' : i < G.n + 1 := hi
    show (if (if i = G.n then G.n else G.rep i) = G.n then G.n else G.rep (if i = G.n then G.n else G.rep i)) = (if i = G.n then G.n else G.rep i)
    by_cases e : i = G.n
    · rw [if_pos e, if_pos rfl]
    · have h1 := h.rep_lt i (by omega)
      rw [if_neg e, if_neg (by omega), h.rep_rep i (by omega)]
  kind_le i hi := by
    have hi' : i < G.n + 1 := hi
    show (if i = G.n then k else G.kind i) ≤ 6
    split
    · exact hk
    · exact h.kind_le i (by omega)
  kind_rep i hi h0 := by
    have hi' : i < G.n + 1 := hi
    have h0' : (if i = G.n then k else G.kind i) ≠ 0 := h0
    show (if (if i = G.n then G.n else G.rep i) = G.n then k else G.kind (if i = G.n then G.n else G.rep i)) = (if i = G.n then k else G.kind i)
    by_cases e : i = G.n
    · rw [if_pos e, if_pos rfl, if_pos e]
    · rw [if_neg e] at h0' ⊢
      have h1 := h.rep_lt i (by omega)
      rw [if_neg (by omega), if_neg e, h.kind_rep i (by omega) h0']
  kids_len i hi := by
    have hi' : i < G.n + 1 := hi
    show (if i = G.n then ks else G.kids i).length = arity (if i = G.n then k else G.kind i)
    by_cases e : i = G.n
    · rw [if_pos e, if_pos e, hl]
    · rw [if_neg e, if_neg e, h.kids_len i (by omega)]
  kids_lt i hi j hj := by
    have hi' : i < G.n + 1 := hi
    have hj' : j ∈ (if i = G.n then ks else G.kids i) := hj
    show j < G.n + 1
    by_cases e : i = G.n
    · rw [if_pos e] at hj'
      have := hs j hj'; omega
    · rw [if_neg e] at hj'
      have := h.kids_lt i (by omega) j hj'; omega
  row_none i hi h6' := by
    have hi' : i < G.n + 1 := hi
    have h7 : (if i = G.n then k else G.kind i) ≠ 6 := h6'
    show (if i = G.n then o else G.ops i) = [] ∧ (if i = G.n then r else G.rv i) = none
    by_cases e : i = G.n
    · rw [if_pos e] at h7
      rw [if_pos e, if_pos e]
      exact h6 h7
    · rw [if_neg e] at h7
      rw [if_neg e, if_neg e]
      exact h.row_none i (by omega) h7
  ops_srt i hi := by
    have hi' : i < G.n + 1 := hi
    show Srt (if i = G.n then o else G.ops i)
    split
    · exact ho
    · exact h.ops_srt i (by omega)
  rv_lt i hi x hx := by
    have hi' : i < G.n + 1 := hi
    have hx' : (if i = G.n then r else G.rv i) = some x := hx
    show x < G.m
    by_cases e : i = G.n
    · rw [if_pos e] at hx'; exact hr x hx'
    · rw [if_neg e] at hx'; exact h.rv_lt i (by omega) x hx'
  W_srt := h.W_srt
  W_lt := h.W_lt
end Gr
theorem empty_ok : emptyG.OK where
  rep_lt i hi := absurd hi (Nat.not_lt_zero i)
  rep_rep i hi := absurd hi (Nat.not_lt_zero i)
  kind_le i hi := absurd hi (Nat.not_lt_zero i)
  kind_rep i hi := absurd hi (Nat.not_lt_zero i)
  kids_len i hi := absurd hi (Nat.not_lt_zero i)
  kids_lt i hi := absurd hi (Nat.not_lt_zero i)
  row_none i hi := absurd hi (Nat.not_lt_zero i)
  ops_srt i hi := absurd hi (Nat.not_lt_zero i)
  rv_lt i hi := absurd hi (Nat.not_lt_zero i)
  W_srt _ _ := List.Pairwise.nil
  W_lt r hr v hv := by
    have : r = v := Option.some.inj hv
    subst this
    exact ⟨hr, rfl⟩
def rvOf (row : Nat) : Option Nat := if row = 0 then none else some row
/-- A type is put into the graph: its node, and what is there then. -/
def put : Ty.P → St → Nat × St
  | .var n, S =>
    match S.tv.lookup n with
    | some i => (i, S)
    | none => (S.G.n, ⟨S.G.add 0 [] [] none, (n, S.G.n) :: S.tv⟩)
  | .int, S => (S.G.n, ⟨S.G.add 1 [] [] none, S.tv⟩)
  | .bool, S => (S.G.n, ⟨S.G.add 2 [] [] none, S.tv⟩)
  | .unit, S => (S.G.n, ⟨S.G.add 3 [] [] none, S.tv⟩)
  | .list a, S =>
    let x := put a S
    (x.2.G.n, ⟨x.2.G.add 4 [x.1] [] none, x.2.tv⟩)
  | .pair a b, S =>
    let x := put a S
    let y := put b x.2
    (y.2.G.n, ⟨y.2.G.add 5 [x.1, y.1] [] none, y.2.tv⟩)
  | .fn a b o r, S =>
    let x := put a S
    let y := put b x.2
    (y.2.G.n, ⟨y.2.G.add 6 [x.1, y.1] o (rvOf r), y.2.tv⟩)
structure St.OK (S : St) : Prop where
  g : S.G.OK
  big : big ≤ S.G.m
  tv : ∀ p ∈ S.tv, p.2 < S.G.n
theorem lookup_mem {n i : Nat} : ∀ {l : List (Nat × Nat)}, l.lookup n = some i → (n, i) ∈ l := by
  intro l
  induction l with
  | nil => intro h; cases h
  | cons p l ih =>
    intro h
    rw [List.lookup_cons] at h
    split at h
    · rename_i e
      have e2 : n = p.1 := by simpa using e
      have := Option.some.inj h
      subst this e2
      simp
    · exact List.mem_cons_of_mem _ (ih h)
theorem put_ok : ∀ (t : Ty.P), t.ok → ∀ (S : St), S.OK → (put t S).2.OK ∧ (put t S).1 < (put t S).2.G.n ∧ S.G.n ≤ (put t S).2.G.n ∧ (put t S).2.G.m = S.G.m ∧ (put t S).2.G.W = S.G.W := by
  intro t
  have leaf : ∀ (k : Nat) (S : St), k ≤ 3 → S.OK → St.OK ⟨S.G.add k [] [] none, S.tv⟩ := fun k S hk h =>
    ⟨Gr.add_ok h.g (by omega) (by unfold Gr.arity; rw [if_neg (by omega), if_neg (by omega)]; rfl) (by simp) (fun _ => ⟨rfl, rfl⟩) List.Pairwise.nil (by simp), h.big, fun p hp => Nat.lt_succ_of_lt (h.tv p hp)⟩
  induction t with
  | var n =>
    intro _ S h
    unfold put
    cases hl : S.tv.lookup n with
    | some i => exact ⟨h, h.tv _ (lookup_mem hl), Nat.le_refl _, rfl, rfl⟩
    | none =>
      refine ⟨⟨(leaf 0 S (by omega) h).g, h.big, fun p hp => ?_⟩, Nat.lt_succ_self _, Nat.le_succ _, rfl, rfl⟩
      rcases List.mem_cons.1 hp with rfl | hp
      · exact Nat.lt_succ_self _
      · exact Nat.lt_succ_of_lt (h.tv p hp)
  | int => intro _ S h; exact ⟨leaf 1 S (by omega) h, Nat.lt_succ_self _, Nat.le_succ _, rfl, rfl⟩
  | bool => intro _ S h; exact ⟨leaf 2 S (by omega) h, Nat.lt_succ_self _, Nat.le_succ _, rfl, rfl⟩
  | unit => intro _ S h; exact ⟨leaf 3 S (by omega) h, Nat.lt_succ_self _, Nat.le_succ _, rfl, rfl⟩
  | list a ih =>
    intro ht S h
    obtain ⟨i1, i2, i3, i4, i5⟩ := ih ht S h
    refine ⟨⟨Gr.add_ok i1.g (by omega) rfl (by simpa using i2) (fun _ => ⟨rfl, rfl⟩) List.Pairwise.nil (by simp), i1.big, fun p hp => Nat.lt_succ_of_lt (i1.tv p hp)⟩, Nat.lt_succ_self _, Nat.le_succ_of_le i3, i4, i5⟩
  | pair a b iha ihb =>
    intro ht S h
    obtain ⟨i1, i2, i3, i4, i5⟩ := iha ht.1 S h
    obtain ⟨j1, j2, j3, j4, j5⟩ := ihb ht.2 _ i1
    refine ⟨⟨Gr.add_ok j1.g (by omega) rfl (fun j hj => ?_) (fun _ => ⟨rfl, rfl⟩) List.Pairwise.nil (by simp), j1.big, fun p hp => Nat.lt_succ_of_lt (j1.tv p hp)⟩, Nat.lt_succ_self _, ?_, j4.trans i4, j5.trans i5⟩
    · simp only [List.mem_cons, List.not_mem_nil, or_false] at hj
      rcases hj with rfl | rfl <;> omega
    · show S.G.n ≤ (put b (put a S).2).2.G.n + 1
      omega
  | fn a b o r iha ihb =>
    intro ht S h
    obtain ⟨h1, h2, h3, h4, h5⟩ := ht
    obtain ⟨i1, i2, i3, i4, i5⟩ := iha h1 S h
    obtain ⟨j1, j2, j3, j4, j5⟩ := ihb h2 _ i1
    refine ⟨⟨Gr.add_ok j1.g (by omega) rfl (fun j hj => ?_) (fun e => absurd rfl e) (srt_of h5) (fun x hx => ?_), j1.big, fun p hp => Nat.lt_succ_of_lt (j1.tv p hp)⟩, Nat.lt_succ_self _, ?_, j4.trans i4, j5.trans i5⟩
    · simp only [List.mem_cons, List.not_mem_nil, or_false] at hj
      rcases hj with rfl | rfl <;> omega
    · unfold rvOf at hx
      split at hx
      · cases hx
      · have := Option.some.inj hx
        have hb := j1.big
        unfold Un.big at hb
        omega
    · show S.G.n ≤ (put b (put a S).2).2.G.n + 1
      omega

/-- What is answered once the first pairs are solved: the rest of the pairs, the number of the next one, the graph, the nodes of the pairs before. -/
def Answers : List (Ty.P × Ty.P) → Nat → St → List Nat → List Ty.P → Nat × Nat → Prop
  | [], _, S, l, out, f => f = (0, 0) ∧ ToldAll S.G l ⟨[], []⟩ out
  | p :: r, i, S, l, out, f =>
    let x := put p.1 S
    let y := put p.2 x.2
    match Gr.uni (y.2.G.n + 1) y.2.G x.1 y.1 with
    | none => out = [] ∧ f = (8, i)
    | some H =>
      ((∃ j ∈ l ++ [x.1], ¬ H.Ends j) ∧ out = [] ∧ f = (8, i)) ∨
      ((∀ j ∈ l ++ [x.1], H.Ends j) ∧ (∃ j ∈ l ++ [x.1], ∃ s, H.Parts j s ∧ 300 < s) ∧ out = [] ∧ f = (10, i)) ∨
      ((∀ j ∈ l ++ [x.1], ∃ s, H.Parts j s ∧ s ≤ 300) ∧ Answers r (i + 1) ⟨H, y.2.tv⟩ (l ++ [x.1]) out f)
where
  ToldAll (G : Gr) : List Nat → Gr.Nms → List Ty.P → Prop
    | [], _, out => out = []
    | j :: l, N, out => ∃ k t N' o, G.told k j N = some (t, N') ∧ ToldAll G l N' o ∧ out = t :: o
end Un
end Go.Proofs.Ytcogpcalghfghaa

namespace Go.Proofs.Ytcogpcalghfghaa
namespace Un
namespace Gr
variable {G : Gr}
theorem told_up : ∀ {k i : Nat} {N : Nms} {x : Ty.P × Nms}, G.told k i N = some x → G.told (k + 1) i N = some x := by
  intro k
  induction k with
  | zero => intro i N x h; cases h
  | succ k ih =>
    intro i N x h
    rw [told] at h ⊢
    by_cases h0 : G.kind (G.rep i) = 0
    · rw [if_pos h0] at h ⊢; exact h
    rw [if_neg h0] at h ⊢
    by_cases h1 : G.kind (G.rep i) = 1
    · rw [if_pos h1] at h ⊢; exact h
    rw [if_neg h1] at h ⊢
    by_cases h2 : G.kind (G.rep i) = 2
    · rw [if_pos h2] at h ⊢; exact h
    rw [if_neg h2] at h ⊢
    by_cases h3 : G.kind (G.rep i) = 3
    · rw [if_pos h3] at h ⊢; exact h
    rw [if_neg h3] at h ⊢
    cases ha : G.told k ((G.kids (G.rep i)).getD 0 0) N with
    | none =>
      rw [ha] at h
      split at h
      · cases h
      · split at h <;> cases h
    | some y =>
      rw [ha] at h
      rw [ih ha]
      by_cases h4 : G.kind (G.rep i) = 4
      · rw [if_pos h4] at h ⊢; exact h
      rw [if_neg h4] at h ⊢
      by_cases h5 : G.kind (G.rep i) = 5
      · rw [if_pos h5] at h ⊢
        simp only [Option.bind_some] at h ⊢
        cases hb : G.told k ((G.kids (G.rep i)).getD 1 0) y.2 with
        | none => rw [hb] at h; cases h
        | some z => rw [hb] at h; rw [ih hb]; exact h
      · rw [if_neg h5] at h ⊢
        simp only [Option.bind_some] at h ⊢
        cases hb : G.told k ((G.kids (G.rep i)).getD 1 0) (rowOf y.2 (G.whole (G.rep i)).2).2 with
        | none => rw [hb] at h; cases h
        | some z => rw [hb] at h; rw [ih hb]; exact h
theorem told_le {k l i : Nat} {N : Nms} {x : Ty.P × Nms} (h : G.told k i N = some x) (hl : k ≤ l) : G.told l i N = some x := by
  induction l with
  | zero =>
    have : k = 0 := by omega
    subst this
    exact h
  | succ l ih =>
    by_cases e : k = l + 1
    · subst e; exact h
    · exact told_up (ih (by omega))
theorem told_one {k l i : Nat} {N : Nms} {x y : Ty.P × Nms} (h : G.told k i N = some x) (h' : G.told l i N = some y) : x = y :=
  Option.some.inj ((told_le h (Nat.le_max_left k l)).symm.trans (told_le h' (Nat.le_max_right k l)))
theorem getD_mem {l : List Nat} {i : Nat} (h : i < l.length) : l.getD i 0 ∈ l := by
  rw [List.getD_eq_getElem?_getD, List.getElem?_eq_getElem h]
  exact List.getElem_mem h
/-- A type that ends is told. -/
theorem told_some (hG : G.OK) : ∀ {k i s : Nat}, i < G.n → G.sz k i = some s → ∀ (N : Nms), ∃ x, G.told k i N = some x := by
  intro k
  induction k with
  | zero => intro i s _ h; cases h
  | succ k ih =>
    intro i s hi h N
    have hr := hG.rep_lt i hi
    have hlen := hG.kids_len _ hr
    have hle := hG.kind_le _ hr
    have hkid : ∀ j, j < (G.kids (G.rep i)).length → ∀ N, ∃ x, G.told k ((G.kids (G.rep i)).getD j 0) N = some x := by
      intro j hj N
      unfold sz at h
      cases hx : sumO (G.sz k) (G.kids (G.rep i)) with
      | none => rw [hx] at h; cases h
      | some t =>
        obtain ⟨x, hx⟩ := sumO_mem hx _ (getD_mem hj)
        exact ih (hG.kids_lt _ hr _ (getD_mem hj)) hx N
    rw [told]
    split
    · exact ⟨_, rfl⟩
    · split
      · exact ⟨_, rfl⟩
      · split
        · exact ⟨_, rfl⟩
        · split
          · exact ⟨_, rfl⟩
          · split
            · rename_i h4
              obtain ⟨x, hx⟩ := hkid 0 (by rw [hlen, h4]; decide) N
              exact ⟨_, by rw [hx]; rfl⟩
            · split
              · rename_i h5
                obtain ⟨x, hx⟩ := hkid 0 (by rw [hlen, h5]; decide) N
                obtain ⟨y, hy⟩ := hkid 1 (by rw [hlen, h5]; decide) x.2
                exact ⟨_, by rw [hx]; simp only [Option.bind_some]; rw [hy]; rfl⟩
              · have h6 : G.kind (G.rep i) = 6 := by omega
                obtain ⟨x, hx⟩ := hkid 0 (by rw [hlen, h6]; decide) N
                obtain ⟨y, hy⟩ := hkid 1 (by rw [hlen, h6]; decide) (rowOf x.2 (G.whole (G.rep i)).2).2
                exact ⟨_, by rw [hx]; simp only [Option.bind_some]; rw [hy]; rfl⟩
end Gr
theorem toldAll_one {G : Gr} : ∀ {l : List Nat} {N : Gr.Nms} {a b : List Ty.P}, Answers.ToldAll G l N a → Answers.ToldAll G l N b → a = b := by
  intro l
  induction l with
  | nil => intro N a b h h'; rw [show a = [] from h, show b = [] from h']
  | cons j l ih =>
    rintro N a b ⟨k, t, N1, o, h1, h2, rfl⟩ ⟨k', t', N1', o', h1', h2', rfl⟩
    have e := Gr.told_one h1 h1'
    have e1 : t = t' := congrArg Prod.fst e
    have e2 : N1 = N1' := congrArg Prod.snd e
    subst e1 e2
    rw [ih h2 h2']
/-- There is one answer. -/
theorem answers_one : ∀ (ps : List (Ty.P × Ty.P)) (i : Nat) (S : St) (l : List Nat) (a b : List Ty.P) (f g : Nat × Nat), Answers ps i S l a f → Answers ps i S l b g → a = b ∧ f = g := by
  intro ps
  induction ps with
  | nil =>
    rintro i S l a b f g ⟨rfl, h1⟩ ⟨rfl, h2⟩
    exact ⟨toldAll_one h1 h2, rfl⟩
  | cons p r ih =>
    intro i S l a b f g h h'
    unfold Answers at h h'
    simp only at h h'
    cases hu : Gr.uni ((put p.2 (put p.1 S).2).2.G.n + 1) (put p.2 (put p.1 S).2).2.G (put p.1 S).1 (put p.2 (put p.1 S).2).1 with
    | none =>
      rw [hu] at h h'
      obtain ⟨rfl, rfl⟩ := h
      obtain ⟨rfl, rfl⟩ := h'
      exact ⟨rfl, rfl⟩
    | some H =>
      rw [hu] at h h'
      simp only at h h'
      rcases h with ⟨⟨j, hj, n1⟩, rfl, rfl⟩ | ⟨e1, ⟨j, hj, s, q1, q2⟩, rfl, rfl⟩ | ⟨e1, h⟩
      · rcases h' with ⟨_, rfl, rfl⟩ | ⟨e1, _⟩ | ⟨e1, _⟩
        · exact ⟨rfl, rfl⟩
        · exact absurd (e1 j hj) n1
        · obtain ⟨s, hs, _⟩ := e1 j hj
          exact absurd ⟨s, hs⟩ n1
      · rcases h' with ⟨⟨j', hj', n1⟩, _⟩ | ⟨_, _, rfl, rfl⟩ | ⟨e2, _⟩
        · exact absurd (e1 j' hj') n1
        · exact ⟨rfl, rfl⟩
        · obtain ⟨s', hs', h3⟩ := e2 j hj
          have := q1.one hs'
          omega
      · rcases h' with ⟨⟨j', hj', n1⟩, _⟩ | ⟨_, ⟨j, hj, s, q1, q2⟩, _⟩ | ⟨_, h'⟩
        · obtain ⟨s, hs, _⟩ := e1 j' hj'
          exact absurd ⟨s, hs⟩ n1
        · obtain ⟨s', hs', h3⟩ := e1 j hj
          have := q1.one hs'
          omega
        · exact ih _ _ _ _ _ _ _ h h'
end Un
end Go.Proofs.Ytcogpcalghfghaa
