/-
  Plain laws on the document's lists: how links are followed, how rows are.
  The document's lists say what the graph says: how types are put in.
  The document's lists say what the graph says: how types and rows are made the same.
  The document's lists say what the graph says: how types are made the same.
  The document's lists say what the graph says: how types are told; what is answered.
  The document's Solve answers what the graph says.
-/
import Derived.Test.YtcogpcalghfghaaMEe
import Derived.Test.YtcogpcalghfghaaSa
set_option linter.unusedVariables false
set_option linter.unusedSimpArgs false
namespace Go.Proofs.Ytcogpcalghfghaa
open Un (Srt joinB joinB_length joinB_srt joinB_assoc joinB_count joinB_nil srt_ext Nm)
namespace Dg

theorem at_nat' {α : Type} (l : List α) (i : Nat) : at? l (i : Int) = l[i]? := by
  unfold at?
  rw [if_neg (by omega), Int.toNat_natCast]
theorem find_up : ∀ {f : Nat} {l : List Int} {n m : Int}, find f l n = some m → find (f + 1) l n = some m := by
  intro f
  induction f with
  | zero => intro l n m h; cases h
  | succ f ih =>
    intro l n m h
    unfold find at h ⊢
    obtain ⟨x, hx, h⟩ := Option.bind_eq_some_iff.1 h
    rw [hx]
    simp only [Option.bind_some]
    split at h
    · rename_i h0; rw [if_pos h0]; exact ih h
    · rename_i h0; rw [if_neg h0]; exact h
theorem find_le {f g : Nat} {l : List Int} {n m : Int} (h : find f l n = some m) (hg : f ≤ g) : find g l n = some m := by
  induction g with
  | zero =>
    have : f = 0 := by omega
    subst this; exact h
  | succ g ih =>
    by_cases e : f = g + 1
    · subst e; exact h
    · exact find_up (ih (by omega))
theorem find_root {l : List Int} {n : Nat} (h : l[n]? = some (-1)) : find 1 l (n : Int) = some (n : Int) := by
  unfold find
  rw [at_nat', h]
  rfl
theorem find_snoc : ∀ {f : Nat} {l : List Int} {n m x : Int}, find f l n = some m → find f (l ++ [x]) n = some m := by
  intro f
  induction f with
  | zero => intro l n m x h; cases h
  | succ f ih =>
    intro l n m x h
    unfold find at h ⊢
    obtain ⟨y, hy, h⟩ := Option.bind_eq_some_iff.1 h
    obtain ⟨i, rfl, hi⟩ := at_some hy
    rw [at_nat', List.getElem?_append_left (List.getElem?_eq_some_iff.1 hi).1, hi]
    simp only [Option.bind_some]
    split at h
    · rename_i h0; rw [if_pos h0]; exact ih h
    · rename_i h0; rw [if_neg h0]; exact h
/-- A root is laid onto another one. -/
theorem find_set {l : List Int} {a b : Nat} (ha : l[a]? = some (-1)) (hb : l[b]? = some (-1)) (hab : a ≠ b) : ∀ {f : Nat} {n m : Int}, find f l n = some m → find (f + 1) (l.set a (b : Int)) n = some (if m = (a : Int) then (b : Int) else m) := by
  have hal := (List.getElem?_eq_some_iff.1 ha).1
  have hb' : (l.set a (b : Int))[b]? = some (-1) := by rw [List.getElem?_set_ne hab]; exact hb
  intro f
  induction f with
  | zero => intro n m h; cases h
  | succ f ih =>
    intro n m h
    rw [find] at h
    obtain ⟨y, hy, h⟩ := Option.bind_eq_some_iff.1 h
    obtain ⟨i, rfl, hi⟩ := at_some hy
    rw [find, at_nat']
    by_cases e : i = a
    · subst e
      rw [ha] at hi
      obtain rfl := Option.some.inj hi
      simp at h
      subst h
      rw [List.getElem?_set_self hal, if_pos rfl]
      simp only [Option.bind_some]
      rw [if_pos (by omega)]
      exact find_le (find_root hb') (by omega)
    · rw [List.getElem?_set_ne (fun h => e h.symm), hi]
      simp only [Option.bind_some]
      split at h
      · rename_i h0
        rw [if_pos h0]
        exact ih h
      · rename_i h0
        rw [if_neg h0]
        obtain rfl := Option.some.inj h
        rw [if_neg (by omega)]

/- rows -/
theorem whole_up : ∀ {f : Nat} {d : D} {r : Int} {l : List Nm} {p : List Nm × Int}, whole f d r l = some p → whole (f + 1) d r l = some p := by
  intro f
  induction f with
  | zero => intro d r l p h; cases h
  | succ f ih =>
    intro d r l p h
    rw [whole] at h ⊢
    obtain ⟨o, ho, h⟩ := Option.bind_eq_some_iff.1 h
    rw [ho]
    simp only [Option.bind_some]
    split at h
    · rename_i h0
      rw [if_pos h0]
      obtain ⟨x, hx, h⟩ := Option.bind_eq_some_iff.1 h
      rw [hx]
      simp only [Option.bind_some]
      split at h
      · rename_i h1; rw [if_pos h1]; exact h
      · rename_i h1
        rw [if_neg h1]
        split at h
        · rename_i h2; rw [if_pos h2]; exact h
        · rename_i h2; rw [if_neg h2]; exact ih h
    · cases h
theorem whole_le {f g : Nat} {d : D} {r : Int} {l : List Nm} {p : List Nm × Int} (h : whole f d r l = some p) (hg : f ≤ g) : whole g d r l = some p := by
  induction g with
  | zero =>
    have : f = 0 := by omega
    subst this; exact h
  | succ g ih =>
    by_cases e : f = g + 1
    · subst e; exact h
    · exact whole_up (ih (by omega))
theorem joinB_of {a o : List Nm} (ha : Srt a) : joinB a (joinB [] o) = joinB a o :=
  srt_ext (joinB_srt _ _ ha) (joinB_srt _ _ ha) (fun x => by rw [joinB_count, joinB_count, joinB_count]; simp)
/-- What a row has joins whatever stands ahead of it. -/
theorem whole_acc : ∀ {f : Nat} {d : D} {r v : Int} {c l : List Nm}, Srt c → whole f d r c = some (l, v) → ∃ t, l = joinB c t ∧ ∀ a, Srt a → a.length + t.length < big → whole f d r a = some (joinB a t, v) := by
  intro f
  induction f with
  | zero => intro d r v c l _ h; cases h
  | succ f ih =>
    intro d r v c l hc h
    rw [whole] at h
    obtain ⟨o, ho, h⟩ := Option.bind_eq_some_iff.1 h
    split at h
    case isFalse => cases h
    rename_i h0
    obtain ⟨x, hx, h⟩ := Option.bind_eq_some_iff.1 h
    split at h
    · rename_i h1
      obtain ⟨rfl, rfl⟩ := Prod.mk.inj (Option.some.inj h)
      refine ⟨o, rfl, fun a ha hl => ?_⟩
      rw [whole, ho]
      simp only [Option.bind_some]
      rw [if_pos hl, hx]
      simp only [Option.bind_some]
      rw [if_pos h1]
    · rename_i h1
      split at h
      · rename_i h2
        obtain ⟨rfl, rfl⟩ := Prod.mk.inj (Option.some.inj h)
        refine ⟨o, rfl, fun a ha hl => ?_⟩
        rw [whole, ho]
        simp only [Option.bind_some]
        rw [if_pos hl, hx]
        simp only [Option.bind_some]
        rw [if_neg h1, if_pos h2]
      · rename_i h2
        obtain ⟨t, rfl, ht⟩ := ih (joinB_srt _ _ hc) h
        refine ⟨joinB o t, by rw [joinB_assoc hc], fun a ha hl => ?_⟩
        rw [joinB_length] at hl
        rw [whole, ho]
        simp only [Option.bind_some]
        rw [if_pos (by omega), hx]
        simp only [Option.bind_some]
        rw [if_neg h1, if_neg h2, ht _ (joinB_srt _ _ ha) (by rw [joinB_length]; omega), joinB_assoc ha]
theorem whole_on {f : Nat} {d : D} {r v : Int} {l : List Nm} (h : whole f d r [] = some (l, v)) {a : List Nm} (ha : Srt a) (hl : a.length + l.length < big) : whole f d r a = some (joinB a l, v) := by
  obtain ⟨t, rfl, ht⟩ := whole_acc List.Pairwise.nil h
  rw [joinB_length] at hl
  rw [ht a ha (by simpa using hl), joinB_of ha]
/-- More rows change nothing. -/
theorem whole_put : ∀ {f : Nat} {d : D} {r : Int} {l : List Nm} {p : List Nm × Int} (o : List Nm) (x : Int), whole f d r l = some p → whole f (d.putRow o x) r l = some p := by
  intro f
  induction f with
  | zero => intro d r l p o x h; cases h
  | succ f ih =>
    intro d r l p o' x' h
    rw [whole] at h ⊢
    obtain ⟨o, ho, h⟩ := Option.bind_eq_some_iff.1 h
    obtain ⟨i, rfl, hi⟩ := at_some ho
    have e1 : at? (d.putRow o' x').ops (i : Int) = some o := by rw [at_nat']; show (d.ops ++ [o'])[i]? = _; rw [List.getElem?_append_left (List.getElem?_eq_some_iff.1 hi).1, hi]
    rw [e1]
    simp only [Option.bind_some]
    split at h
    case isFalse => cases h
    rename_i h0
    rw [if_pos h0]
    obtain ⟨x, hx, h⟩ := Option.bind_eq_some_iff.1 h
    rw [at_nat'] at hx
    have e2 : at? (d.putRow o' x').next (i : Int) = some x := by rw [at_nat']; show (d.next ++ [x'])[i]? = _; rw [List.getElem?_append_left (List.getElem?_eq_some_iff.1 hx).1, hx]
    rw [e2]
    simp only [Option.bind_some]
    split at h
    · rename_i h1; rw [if_pos h1]; exact h
    · rename_i h1
      rw [if_neg h1]
      split at h
      · rename_i h2; rw [if_pos h2]; exact h
      · rename_i h2; rw [if_neg h2]; exact ih o' x' h
theorem whole_same {d d' : D} (h1 : d'.ops = d.ops) (h2 : d'.next = d.next) : ∀ (f : Nat) (r : Int) (l : List Nm), whole f d' r l = whole f d r l := by
  intro f
  induction f with
  | zero => intro r l; rfl
  | succ f ih => intro r l; rw [whole, whole, h1, h2]; simp only [ih]
/-- A variable stands for names and what comes then. -/
theorem whole_set {d : D} {v : Nat} {e : List Nm} {x : Int} (hv0 : v ≠ 0) (ho : d.ops[v]? = some []) (hn : d.next[v]? = some (-1)) (hx : x = 0 ∨ ∃ y : Nat, x = (y : Int) ∧ y ≠ 0 ∧ y ≠ v ∧ d.ops[y]? = some [] ∧ d.next[y]? = some (-1)) :
    ∀ {f : Nat} {r z : Int} {c l : List Nm}, whole f d r c = some (l, z) → l.length + e.length < big →
      whole (f + 1) { d with ops := d.ops.set v e, next := d.next.set v x } r c = some (if z = (v : Int) then (joinB l e, x) else (l, z)) := by
  have hol := (List.getElem?_eq_some_iff.1 ho).1
  have hnl := (List.getElem?_eq_some_iff.1 hn).1
  intro f
  induction f with
  | zero => intro r z c l h; cases h
  | succ f ih =>
    intro r z c l h hl
    rw [whole] at h
    obtain ⟨o, ho', h⟩ := Option.bind_eq_some_iff.1 h
    obtain ⟨i, rfl, hi⟩ := at_some ho'
    split at h
    case isFalse => cases h
    rename_i h0
    obtain ⟨y, hy, h⟩ := Option.bind_eq_some_iff.1 h
    rw [at_nat'] at hy
    rw [whole, at_nat']
    by_cases e1 : i = v
    · subst e1
      rw [ho] at hi
      obtain rfl := Option.some.inj hi
      rw [hn] at hy
      obtain rfl := Option.some.inj hy
      rw [if_pos rfl] at h
      obtain ⟨rfl, rfl⟩ := Prod.mk.inj (Option.some.inj h)
      have ec : joinB c [] = c := rfl
      rw [ec] at hl ⊢
      show ((d.ops.set i e)[i]?).bind _ = _
      rw [List.getElem?_set_self hol]
      simp only [Option.bind_some]
      rw [if_pos hl, at_nat']
      show ((d.next.set i x)[i]?).bind _ = _
      rw [List.getElem?_set_self hnl]
      simp only [Option.bind_some]
      rcases hx with rfl | ⟨y, rfl, y0, yv, y1, y2⟩
      · simp
      · rw [if_neg (by omega), if_neg (by omega), whole, at_nat']
        show ((d.ops.set i e)[y]?).bind _ = _
        rw [List.getElem?_set_ne (fun h => yv h.symm), y1]
        simp only [Option.bind_some]
        rw [if_pos (by rw [joinB_length]; simpa using hl), at_nat']
        show ((d.next.set i (y : Int))[y]?).bind _ = _
        rw [List.getElem?_set_ne (fun h => yv h.symm), y2]
        simp only [Option.bind_some]
        rfl
    · show ((d.ops.set v e)[i]?).bind _ = _
      rw [List.getElem?_set_ne (fun h => e1 h.symm), hi]
      simp only [Option.bind_some]
      rw [if_pos h0, at_nat']
      show ((d.next.set v x)[i]?).bind _ = _
      rw [List.getElem?_set_ne (fun h => e1 h.symm), hy]
      simp only [Option.bind_some]
      split at h
      · rename_i h1
        rw [if_pos h1]
        obtain ⟨rfl, rfl⟩ := Prod.mk.inj (Option.some.inj h)
        rw [if_neg (by omega)]
      · rename_i h1
        rw [if_neg h1]
        split at h
        · rename_i h2
          rw [if_pos h2]
          obtain ⟨rfl, rfl⟩ := Prod.mk.inj (Option.some.inj h)
          rw [if_neg (by omega)]
        · rename_i h2
          rw [if_neg h2]
          exact ih h hl
end Dg
end Go.Proofs.Ytcogpcalghfghaa

namespace Go.Proofs.Ytcogpcalghfghaa
open Un (Srt joinB joinB_length joinB_srt joinB_assoc joinB_nil Nm Gr St put rvOf)
namespace Dg

def kid (l : List Nat) (j : Nat) : Int := match l[j]? with
  | some x => (x : Int)
  | none => -1
def nx (φ : Nat → Option Nat) : Option Nat → Int
  | none => 0
  | some v => (((φ v).getD 0 : Nat) : Int)
theorem nx_some {φ : Nat → Option Nat} {v x : Nat} (h : φ v = some x) : nx φ (some v) = (x : Int) := by simp [nx, h]
structure Sim (d : D) (G : Gr) (φ : Nat → Option Nat) (K : Nat) : Prop where
  lk : d.kind.length = G.n
  la : d.a.length = G.n
  lb : d.b.length = G.n
  lr : d.row.length = G.n
  ll : d.link.length = G.n
  lo : d.next.length = d.ops.length
  o0 : 1 ≤ d.ops.length
  kd : ∀ i, i < G.n → d.kind[i]? = some (G.kind i : Int)
  ka : ∀ i, i < G.n → d.a[i]? = some (kid (G.kids i) 0)
  kb : ∀ i, i < G.n → d.b[i]? = some (kid (G.kids i) 1)
  fd : ∀ i, i < G.n → find K d.link (i : Int) = some (G.rep i : Int)
  rt : ∀ i, i < G.n → G.rep i = i → d.link[i]? = some (-1)
  rw : ∀ i, i < G.n → G.kind i = 6 → ∃ ρ : Nat, d.row[i]? = some (ρ : Int) ∧ d.ops[ρ]? = some (G.ops i) ∧ d.next[ρ]? = some (nx φ (G.rv i)) ∧ (∀ r, φ r ≠ some ρ) ∧ (∀ r, G.rv i = some r → ∃ x, φ r = some x)
  vr : ∀ r x, φ r = some x → r < G.m ∧ x ≠ 0 ∧ x < d.ops.length ∧ whole K d (x : Int) [] = some ((G.W r).1, nx φ (G.W r).2) ∧ (∀ v, (G.W r).2 = some v → ∃ y, φ v = some y)
  vt : ∀ v x, φ v = some x → G.W v = ([], some v) → d.ops[x]? = some [] ∧ d.next[x]? = some (-1)
  un : ∀ r, r < G.m → φ r = none → G.W r = ([], some r)
  inj : ∀ r r' x, φ r = some x → φ r' = some x → r = r'
theorem Sim.up {d : D} {G : Gr} {φ : Nat → Option Nat} {K L : Nat} (h : Sim d G φ K) (hl : K ≤ L) : Sim d G φ L :=
  { h with
    fd := fun i hi => find_le (h.fd i hi) hl
    vr := fun r x hx => by
      obtain ⟨h1, h2, h3, h4, h5⟩ := h.vr r x hx
      exact ⟨h1, h2, h3, whole_le h4 hl, h5⟩ }
/-- The row of a node, in whole. -/
theorem Sim.whole {d : D} {G : Gr} {φ : Nat → Option Nat} {K T : Nat} (h : Sim d G φ K) (hG : G.OK) (hb : G.Bd T) (hT : T < big) {i : Nat} (hi : i < G.n) (hk : G.kind i = 6) :
    ∃ ρ : Nat, d.row[i]? = some (ρ : Int) ∧ Dg.whole (K + 1) d (ρ : Int) [] = some ((G.whole i).1, nx φ (G.whole i).2) ∧ (∀ v, (G.whole i).2 = some v → ∃ y, φ v = some y) := by
  obtain ⟨ρ, h1, h2, h3, _, h5⟩ := h.rw i hi hk
  have hw := Un.Gr.Bd.whole hb hi
  refine ⟨ρ, h1, ?_, ?_⟩
  · rw [Dg.whole, at_nat', h2]
    simp only [Option.bind_some]
    have hs := hG.ops_srt i hi
    have hle : (G.ops i).length ≤ (G.whole i).1.length := by
      unfold Un.Gr.whole
      cases hr : G.rv i with
      | none => exact Nat.le_refl _
      | some r => simp only; rw [joinB_length]; omega
    rw [if_pos (by simp; omega), at_nat', h3]
    simp only [Option.bind_some]
    rw [joinB_nil hs]
    unfold Un.Gr.whole at hw ⊢
    cases hr : G.rv i with
    | none => rfl
    | some r =>
      rw [hr] at hw
      simp only at hw ⊢
      obtain ⟨x, hx⟩ := h5 r hr
      obtain ⟨_, x0, _, v4, _⟩ := h.vr r x hx
      rw [nx_some hx, if_neg (by omega), if_neg (by omega)]
      rw [joinB_length] at hw
      exact whole_on v4 hs (by omega)
  · intro v hv
    unfold Un.Gr.whole at hv
    cases hr : G.rv i with
    | none => rw [hr] at hv; cases hv
    | some r =>
      rw [hr] at hv
      obtain ⟨x, hx⟩ := h5 r hr
      exact (h.vr r x hx).2.2.2.2 v hv
theorem snoc_at {α : Type} {l : List α} {x : α} {i n : Nat} (hn : l.length = n) (hi : i < n + 1) : (l ++ [x])[i]? = if i = n then some x else l[i]? := by
  subst hn
  by_cases e : i = l.length
  · subst e; simp
  · rw [if_neg e, List.getElem?_append_left (by omega)]
/-- A node is put in. -/
theorem Sim.add {d : D} {G : Gr} {φ : Nat → Option Nat} {K : Nat} (h : Sim d G φ K) (hK : 1 ≤ K) {k : Nat} {ks : List Nat} {o : List Nm} {r : Option Nat} {rr : Int}
    (hr : k = 6 → ∃ ρ : Nat, rr = (ρ : Int) ∧ d.ops[ρ]? = some o ∧ d.next[ρ]? = some (nx φ r) ∧ (∀ q, φ q ≠ some ρ) ∧ (∀ q, r = some q → ∃ x, φ q = some x)) : Sim (d.put k (kid ks 0) (kid ks 1) rr) (G.add k ks o r) φ K where
  lk := by simp [D.put, Un.Gr.add, h.lk]
  la := by simp [D.put, Un.Gr.add, h.la]
  lb := by simp [D.put, Un.Gr.add, h.lb]
  lr := by simp [D.put, Un.Gr.add, h.lr]
  ll := by simp [D.put, Un.Gr.add, h.ll]
  lo := h.lo
  o0 := h.o0
  kd i hi := by
    have hi' : i < G.n + 1 := hi
    show (d.kind ++ [(k : Int)])[i]? = some (((if i = G.n then k else G.kind i) : Nat) : Int)
    rw [snoc_at h.lk hi']
    by_cases e : i = G.n
    · rw [if_pos e, if_pos e]
    · rw [if_neg e, if_neg e, h.kd i (by omega)]
  ka i hi := by
    have hi' : i < G.n + 1 := hi
    show (d.a ++ [kid ks 0])[i]? = some (kid (if i = G.n then ks else G.kids i) 0)
    rw [snoc_at h.la hi']
    by_cases e : i = G.n
    · rw [if_pos e, if_pos e]
    · rw [if_neg e, if_neg e, h.ka i (by omega)]
  kb i hi := by
    have hi' : i < G.n + 1 := hi
    show (d.b ++ [kid ks 1])[i]? = some (kid (if i = G.n then ks else G.kids i) 1)
    rw [snoc_at h.lb hi']
    by_cases e : i = G.n
    · rw [if_pos e, if_pos e]
    · rw [if_neg e, if_neg e, h.kb i (by omega)]
  fd i hi := by
    have hi' : i < G.n + 1 := hi
    show find K (d.link ++ [-1]) (i : Int) = some (((if i = G.n then G.n else G.rep i) : Nat) : Int)
    by_cases e : i = G.n
    · rw [if_pos e]
      subst e
      exact find_le (find_root (by rw [snoc_at h.ll (by omega), if_pos rfl])) hK
    · rw [if_neg e]
      exact find_snoc (h.fd i (by omega))
  rt i hi hr' := by
    have hi' : i < G.n + 1 := hi
    have hr2 : (if i = G.n then G.n else G.rep i) = i := hr'
    show (d.link ++ [-1])[i]? = some (-1)
    rw [snoc_at h.ll hi']
    by_cases e : i = G.n
    · rw [if_pos e]
    · rw [if_neg e] at hr2 ⊢
      exact h.rt i (by omega) hr2
  rw i hi hk := by
    have hi' : i < G.n + 1 := hi
    have hk' : (if i = G.n then k else G.kind i) = 6 := hk
    show ∃ ρ : Nat, (d.row ++ [rr])[i]? = some (ρ : Int) ∧ d.ops[ρ]? = some (if i = G.n then o else G.ops i) ∧ d.next[ρ]? = some (nx φ (if i = G.n then r else G.rv i)) ∧ (∀ r, φ r ≠ some ρ) ∧ (∀ q, (if i = G.n then r else G.rv i) = some q → ∃ x, φ q = some x)
    rw [snoc_at h.lr hi']
    by_cases e : i = G.n
    · rw [if_pos e] at hk' ⊢
      rw [if_pos e, if_pos e]
      obtain ⟨ρ, rfl, h2, h3, h4, h5⟩ := hr hk'
      exact ⟨ρ, rfl, h2, h3, h4, h5⟩
    · rw [if_neg e] at hk' ⊢
      rw [if_neg e, if_neg e]
      exact h.rw i (by omega) hk'
  vr r x hx := by
    obtain ⟨h1, h2, h3, h4, h5⟩ := h.vr r x hx
    exact ⟨h1, h2, h3, (whole_same (d := d) (d' := d.put k (kid ks 0) (kid ks 1) rr) rfl rfl K x []).trans h4, h5⟩
  vt := h.vt
  un := h.un
  inj := h.inj
/-- A row is put in. -/
theorem Sim.putRow {d : D} {G : Gr} {φ : Nat → Option Nat} {K : Nat} (h : Sim d G φ K) (o : List Nm) (x : Int) : Sim (d.putRow o x) G φ K where
  lk := h.lk
  la := h.la
  lb := h.lb
  lr := h.lr
  ll := h.ll
  lo := by simp [D.putRow, h.lo]
  o0 := by simp [D.putRow]
  kd := h.kd
  ka := h.ka
  kb := h.kb
  fd := h.fd
  rt := h.rt
  rw i hi hk := by
    obtain ⟨ρ, h1, h2, h3, h4, h5⟩ := h.rw i hi hk
    refine ⟨ρ, h1, ?_, ?_, h4, h5⟩
    · show (d.ops ++ [o])[ρ]? = _
      rw [List.getElem?_append_left (List.getElem?_eq_some_iff.1 h2).1, h2]
    · show (d.next ++ [x])[ρ]? = _
      rw [List.getElem?_append_left (List.getElem?_eq_some_iff.1 h3).1, h3]
  vr r y hy := by
    obtain ⟨h1, h2, h3, h4, h5⟩ := h.vr r y hy
    exact ⟨h1, h2, by simp [D.putRow]; omega, whole_put o x h4, h5⟩
  vt v y hy hw := by
    obtain ⟨h1, h2⟩ := h.vt v y hy hw
    refine ⟨?_, ?_⟩
    · show (d.ops ++ [o])[y]? = _
      rw [List.getElem?_append_left (List.getElem?_eq_some_iff.1 h1).1, h1]
    · show (d.next ++ [x])[y]? = _
      rw [List.getElem?_append_left (List.getElem?_eq_some_iff.1 h2).1, h2]
  un := h.un
  inj := h.inj
def ext (φ : Nat → Option Nat) (r x : Nat) : Nat → Option Nat := fun q => if q = r then some x else φ q
theorem ext_old {φ : Nat → Option Nat} {r x q : Nat} (h : q ≠ r) : ext φ r x q = φ q := by simp [ext, h]
theorem ext_new (φ : Nat → Option Nat) (r x : Nat) : ext φ r x r = some x := by simp [ext]
theorem nx_ext {φ : Nat → Option Nat} {r x : Nat} (hr : φ r = none) {v : Option Nat} (hv : ∀ q, v = some q → ∃ y, φ q = some y) : nx (ext φ r x) v = nx φ v := by
  cases v with
  | none => rfl
  | some q =>
    obtain ⟨y, hy⟩ := hv q rfl
    have hq : q ≠ r := fun e => by rw [e, hr] at hy; cases hy
    simp [nx, ext_old hq]
/-- A row variable is met. -/
theorem Sim.open {d : D} {G : Gr} {φ : Nat → Option Nat} {K r : Nat} (h : Sim d G φ K) (hK : 1 ≤ K) (hr : φ r = none) (hm : r < G.m) : Sim (d.putRow [] (-1)) G (ext φ r d.ops.length) K := by
  have h' := h.putRow [] (-1)
  have hw := h.un r hm hr
  have n1 : (d.ops ++ [([] : List Nm)])[d.ops.length]? = some [] := by simp
  have n2 : (d.next ++ [(-1 : Int)])[d.ops.length]? = some (-1) := by rw [← h.lo]; simp
  refine { h' with rw := fun i hi hk => ?_, vr := fun q y hy => ?_, vt := fun q y hy hq => ?_, un := fun q hq hn => ?_, inj := fun q q' y h1 h2 => ?_ }
  · obtain ⟨ρ, h1, h2, h3, h4, h5⟩ := h.rw i hi hk
    obtain ⟨ρ', h1', h2', h3', h4', h5'⟩ := h'.rw i hi hk
    have : ρ = ρ' := by
      have e : d.row[i]? = some (ρ' : Int) := h1'
      rw [h1] at e
      have := Option.some.inj e
      omega
    subst this
    have hρ := (List.getElem?_eq_some_iff.1 h2).1
    refine ⟨ρ, h1, h2', by rw [nx_ext hr h5]; exact h3', fun q e => ?_, fun q hq => ?_⟩
    · by_cases e1 : q = r
      · subst e1
        rw [ext_new] at e
        have := Option.some.inj e
        omega
      · rw [ext_old e1] at e
        exact h4 q e
    · obtain ⟨x, hx⟩ := h5 q hq
      have e1 : q ≠ r := fun e => by rw [e, hr] at hx; cases hx
      exact ⟨x, by rw [ext_old e1]; exact hx⟩
  · by_cases e1 : q = r
    · subst e1
      rw [ext_new] at hy
      obtain rfl := Option.some.inj hy
      have h0 := h.o0
      refine ⟨hm, by omega, by simp [D.putRow], ?_, fun v hv => ?_⟩
      · rw [hw]
        refine whole_le (f := 1) ?_ hK
        rw [Dg.whole, at_nat']
        show ((d.ops ++ [([] : List Nm)])[d.ops.length]?).bind _ = _
        rw [n1]
        simp only [Option.bind_some]
        rw [if_pos (by simp [big]), at_nat']
        show ((d.next ++ [(-1 : Int)])[d.ops.length]?).bind _ = _
        rw [n2]
        simp only [Option.bind_some]
        rw [nx_some (ext_new φ q _)]
        simp [joinB]
      · rw [hw] at hv
        obtain rfl := Option.some.inj hv
        exact ⟨_, ext_new _ _ _⟩
    · rw [ext_old e1] at hy
      obtain ⟨h1, h2, h3, h4, h5⟩ := h'.vr q y hy
      refine ⟨h1, h2, h3, by rw [nx_ext hr h5]; exact h4, fun v hv => ?_⟩
      obtain ⟨z, hz⟩ := h5 v hv
      have e2 : v ≠ r := fun e => by rw [e, hr] at hz; cases hz
      exact ⟨z, by rw [ext_old e2]; exact hz⟩
  · by_cases e1 : q = r
    · subst e1
      rw [ext_new] at hy
      obtain rfl := Option.some.inj hy
      exact ⟨n1, n2⟩
    · rw [ext_old e1] at hy
      exact h'.vt q y hy hq
  · by_cases e1 : q = r
    · subst e1; rw [ext_new] at hn; cases hn
    · rw [ext_old e1] at hn
      exact h.un q hq hn
  · by_cases e1 : q = r
    · by_cases e2 : q' = r
      · rw [e1, e2]
      · subst e1
        rw [ext_new] at h1
        obtain rfl := Option.some.inj h1
        rw [ext_old e2] at h2
        have := (h.vr q' _ h2).2.2.1
        omega
    · by_cases e2 : q' = r
      · subst e2
        rw [ext_new] at h2
        obtain rfl := Option.some.inj h2
        rw [ext_old e1] at h1
        have := (h.vr q _ h1).2.2.1
        omega
      · rw [ext_old e1] at h1
        rw [ext_old e2] at h2
        exact h.inj q q' y h1 h2
theorem lookup_cons' (n i m : Nat) (l : List (Nat × Nat)) : ((n, i) :: l).lookup m = if m = n then some i else l.lookup m := by
  rw [List.lookup_cons]
  by_cases e : m = n
  · subst e; simp
  · have : (m == n) = false := by simpa using e
    rw [this, if_neg e]
theorem kid_one (x : Nat) : kid [x] 0 = (x : Int) ∧ kid [x] 1 = -1 := ⟨rfl, rfl⟩
theorem kid_two (x y : Nat) : kid [x, y] 0 = (x : Int) ∧ kid [x, y] 1 = (y : Int) := ⟨rfl, rfl⟩
end Dg
end Go.Proofs.Ytcogpcalghfghaa

namespace Go.Proofs.Ytcogpcalghfghaa
open Un (Srt joinB joinB_length joinB_srt joinB_assoc joinB_nil Nm Gr St put rvOf less)
namespace Dg

theorem Sim.link {d : D} {G : Gr} {φ : Nat → Option Nat} {K a b : Nat} (h : Sim d G φ K) (ha : a < G.n) (hb : b < G.n) (hra : G.rep a = a) (hrb : G.rep b = b) (hab : a ≠ b) : Sim (d.lnk a (b : Int)) (G.link a b) φ (K + 1) := by
  have h1 := h.up (Nat.le_succ K)
  refine { h1 with ll := ?_, fd := fun i hi => ?_, rt := fun i hi hr => ?_, vr := fun r x hx => ?_ }
  · show (d.link.set a (b : Int)).length = G.n
    rw [List.length_set, h.ll]
  · show find (K + 1) (d.link.set a (b : Int)) (i : Int) = some (((if G.rep i = a then b else G.rep i) : Nat) : Int)
    rw [find_set (h.rt a ha hra) (h.rt b hb hrb) hab (h.fd i hi)]
    by_cases e : G.rep i = a
    · rw [if_pos (by omega), if_pos e]
    · rw [if_neg (by omega), if_neg e]
  · have hr' : (if G.rep i = a then b else G.rep i) = i := hr
    show (d.link.set a (b : Int))[i]? = some (-1)
    by_cases e : G.rep i = a
    · rw [if_pos e] at hr'
      rw [← hr', hrb] at e
      exact absurd e.symm hab
    · rw [if_neg e] at hr'
      have hi' : i < G.n := hi
      rw [List.getElem?_set_ne (fun e1 => e (by rw [hr']; exact e1.symm))]
      exact h.rt i hi' hr'
  · obtain ⟨q1, q2, q3, q4, q5⟩ := h1.vr r x hx
    exact ⟨q1, q2, q3, (whole_same (d := d) (d' := d.lnk a (b : Int)) rfl rfl (K + 1) x []).trans q4, q5⟩
theorem nx_eq {d : D} {G : Gr} {φ : Nat → Option Nat} {K : Nat} (h : Sim d G φ K) {u v : Option Nat} (hu : ∀ q, u = some q → ∃ y, φ q = some y) (hv : ∀ q, v = some q → ∃ y, φ q = some y) : nx φ u = nx φ v ↔ u = v := by
  constructor
  · intro e
    cases u with
    | none =>
      cases v with
      | none => rfl
      | some v =>
        obtain ⟨y, hy⟩ := hv v rfl
        rw [nx_some hy] at e
        have h0 := (h.vr v y hy).2.1
        have : (0 : Int) = (y : Int) := e
        omega
    | some u =>
      obtain ⟨x, hx⟩ := hu u rfl
      cases v with
      | none =>
        rw [nx_some hx] at e
        have h0 := (h.vr u x hx).2.1
        have : (x : Int) = (0 : Int) := e
        omega
      | some v =>
        obtain ⟨y, hy⟩ := hv v rfl
        rw [nx_some hx, nx_some hy] at e
        have : x = y := by omega
        subst this
        rw [h.inj u v x hx hy]
  · intro e; rw [e]
/-- A row variable stands for names and what comes then. -/
theorem Sim.stands {d : D} {G : Gr} {φ : Nat → Option Nat} {K v x : Nat} {e : List Nm} {y : Option Nat} (h : Sim d G φ K) (hv : φ v = some x) (hw : G.W v = ([], some v))
    (hy : ∀ q, y = some q → q ≠ v ∧ G.W q = ([], some q) ∧ ∃ z, φ q = some z) (hl : ∀ r, r < G.m → (G.W r).1.length + e.length < big) :
    Sim { d with ops := d.ops.set x e, next := d.next.set x (nx φ y) } (G.stands v e y) φ (K + 1) := by
  have h1 := h.up (Nat.le_succ K)
  obtain ⟨vo, vn⟩ := h.vt v x hv hw
  have x0 := (h.vr v x hv).2.1
  have hxy : nx φ y = 0 ∨ ∃ z : Nat, nx φ y = (z : Int) ∧ z ≠ 0 ∧ z ≠ x ∧ d.ops[z]? = some [] ∧ d.next[z]? = some (-1) := by
    cases y with
    | none => exact .inl rfl
    | some q =>
      obtain ⟨q1, q2, z, hz⟩ := hy q rfl
      obtain ⟨zo, zn⟩ := h.vt q z hz q2
      exact .inr ⟨z, nx_some hz, (h.vr q z hz).2.1, fun e1 => q1 (h.inj q v x (e1 ▸ hz) hv), zo, zn⟩
  refine { h1 with lo := ?_, o0 := ?_, rw := fun i hi hk => ?_, vr := fun r q hq => ?_, vt := fun u q hq hu => ?_, un := fun r hr hn => ?_ }
  · simp [h.lo]
  · simpa using h.o0
  · obtain ⟨ρ, r1, r2, r3, r4, r5⟩ := h.rw i hi hk
    have hne : x ≠ ρ := fun e1 => r4 v (e1 ▸ hv)
    exact ⟨ρ, r1, by rw [List.getElem?_set_ne hne]; exact r2, by rw [List.getElem?_set_ne hne]; exact r3, r4, r5⟩
  · obtain ⟨q1, q2, q3, q4, q5⟩ := h.vr r q hq
    have hs := whole_set (d := d) (v := x) (e := e) (x := nx φ y) x0 vo vn hxy q4 (hl r q1)
    refine ⟨q1, q2, by simpa using q3, ?_, fun u hu => ?_⟩
    · rw [hs, Un.Gr.stands_W]
      have hiff : nx φ (G.W r).2 = (x : Int) ↔ (G.W r).2 = some v := by
        rw [← nx_some hv]
        exact nx_eq h q5 (fun q e1 => by obtain rfl := Option.some.inj e1; exact ⟨x, hv⟩)
      by_cases e1 : (G.W r).2 = some v
      · rw [if_pos (hiff.2 e1), if_pos e1]
      · rw [if_neg (fun e2 => e1 (hiff.1 e2)), if_neg e1]
    · rw [Un.Gr.stands_W] at hu
      by_cases e1 : (G.W r).2 = some v
      · rw [if_pos e1] at hu
        exact (hy u hu).2.2
      · rw [if_neg e1] at hu
        exact q5 u hu
  · rw [Un.Gr.stands_W] at hu
    by_cases e1 : (G.W u).2 = some v
    · rw [if_pos e1] at hu
      have hu2 : y = some u := (Prod.mk.inj hu).2
      obtain ⟨q1, q2, _⟩ := hy u hu2
      rw [q2] at e1
      exact absurd (Option.some.inj e1) q1
    · rw [if_neg e1] at hu
      obtain ⟨z1, z2⟩ := h.vt u q hq hu
      have hne : x ≠ q := fun e2 => e1 (by rw [hu]; exact congrArg some (h.inj u v x (e2 ▸ hq) hv))
      exact ⟨by rw [List.getElem?_set_ne hne]; exact z1, by rw [List.getElem?_set_ne hne]; exact z2⟩
  · rw [Un.Gr.stands_W]
    have hr' : r < G.m := hr
    have hz := h.un r hr' hn
    rw [if_neg]
    · exact hz
    · intro e1
      rw [hz] at e1
      have : r = v := Option.some.inj e1
      rw [this, hv] at hn
      cases hn
theorem Sim.opened {d : D} {G : Gr} {φ : Nat → Option Nat} {K : Nat} (h : Sim d G φ K) (hG : G.OK) (hK : 1 ≤ K) (hm : φ G.m = none) : Sim (d.putRow [] (-1)) G.opened (ext φ G.m d.ops.length) K := by
  have hW : ∀ r, r < G.m → G.opened.W r = G.W r := fun r hr => Un.Gr.opened_old hr
  have h0 : Sim d G.opened φ K := by
    refine { h with vr := fun r x hx => ?_, vt := fun v x hv hw => ?_, un := fun r hr hn => ?_ }
    · obtain ⟨q1, q2, q3, q4, q5⟩ := h.vr r x hx
      rw [hW r q1]
      exact ⟨Nat.lt_succ_of_lt q1, q2, q3, q4, q5⟩
    · rw [hW v (h.vr v x hv).1] at hw
      exact h.vt v x hv hw
    · have hr' : r < G.m + 1 := hr
      by_cases e : r = G.m
      · subst e; exact Un.Gr.opened_new G
      · rw [hW r (by omega)]
        exact h.un r (by omega) hn
  exact h0.open hK hm (Nat.lt_succ_self _)
/-- What making the same costs: rows, and how far one has to go. -/
structure Cost (d : D) (G : Gr) (K A B : Nat) : Prop where
  ops : d.ops.length + G.roots ≤ A
  fu : K + 3 * G.roots ≤ B
theorem Cost.small {d : D} {G : Gr} {φ : Nat → Option Nat} {K A B : Nat} (c : Cost d G K A B) (h : Sim d G φ K) (hA : A < big) (hn : G.n < big) : d.small := by
  have h1 := c.ops
  refine ⟨?_, ?_, ?_, ?_, ?_, ?_, ?_⟩
  · rw [h.lk]; omega
  · rw [h.la]; omega
  · rw [h.lb]; omega
  · rw [h.lr]; omega
  · rw [h.ll]; omega
  · omega
  · rw [h.lo]; omega
theorem Sim.none_m {d : D} {G : Gr} {φ : Nat → Option Nat} {K : Nat} (h : Sim d G φ K) : φ G.m = none := by
  cases hx : φ G.m with
  | none => rfl
  | some x => have := (h.vr _ x hx).1; omega
theorem stands_eq {d : D} {v : Nat} {o : List Nm} {x : Int} (h1 : v < d.ops.length) (h2 : v < d.next.length) : Dg.stands d (v : Int) o x = some { d with ops := d.ops.set v o, next := d.next.set v x } := by
  unfold Dg.stands
  rw [if_pos ⟨by omega, by omega, by omega⟩, Int.toNat_natCast]
/-- Rows are made the same alike. -/
theorem Sim.sameRow {d : D} {G : Gr} {φ : Nat → Option Nat} {K T f : Nat} (h : Sim d G φ K) (hG : G.OK) (hb : G.Bd T) (hT : 3 * T < big) (hK : 1 ≤ K) (hf : K + 1 ≤ f) (hs : d.small) {i j ρ σ : Nat} (hi : i < G.n) (hj : j < G.n) (hki : G.kind i = 6) (hkj : G.kind j = 6) (hρ : d.row[i]? = some (ρ : Int)) (hσ : d.row[j]? = some (σ : Int)) :
    match G.sameRow i j with
    | none => ∃ d', Dg.sameRow f d (ρ : Int) (σ : Int) = some (false, d')
    | some H => ∃ d' φ', Dg.sameRow f d (ρ : Int) (σ : Int) = some (true, d') ∧ Sim d' H φ' (K + 2) ∧ d'.ops.length ≤ d.ops.length + 1 ∧ ∀ r, r < G.m → φ' r = φ r := by
  obtain ⟨ρ', e1, w1, x1⟩ := h.whole hG hb (by omega) hi hki
  obtain ⟨σ', e2, w2, x2⟩ := h.whole hG hb (by omega) hj hkj
  have : ρ' = ρ := by rw [hρ] at e1; have := Option.some.inj e1; omega
  subst this
  have : σ' = σ := by rw [hσ] at e2; have := Option.some.inj e2; omega
  subst this
  have l1 := Un.Gr.Bd.whole hb hi
  have l2 := Un.Gr.Bd.whole hb hj
  have lW := fun r (hr : r < G.m) => Un.Gr.Bd.W hb hr
  have ld := Un.Gr.less_len (G.whole i).1 (G.whole j).1
  have le := Un.Gr.less_len (G.whole j).1 (G.whole i).1
  unfold Dg.sameRow
  rw [whole_le w1 hf, whole_le w2 hf]
  simp only [Option.bind_some]
  rw [if_pos ⟨by omega, by omega⟩]
  have hnx := nx_eq h x1 x2
  unfold Un.Gr.sameRow
  simp only
  by_cases e : (G.whole i).2 = (G.whole j).2
  · rw [if_pos (hnx.2 e), if_pos e]
    by_cases e3 : less (G.whole i).1 (G.whole j).1 = [] ∧ less (G.whole j).1 (G.whole i).1 = []
    · rw [if_pos e3]
      refine ⟨d, φ, ?_, h.up (by omega), by omega, fun _ _ => rfl⟩
      rw [e3.1, e3.2]
      rfl
    · rw [if_neg e3]
      refine ⟨d, ?_⟩
      have : (decide ((less (G.whole i).1 (G.whole j).1).length = 0) && decide ((less (G.whole j).1 (G.whole i).1).length = 0)) = false := by
        simpa [List.length_eq_zero_iff] using e3
      rw [this]
  · rw [if_neg (fun e3 => e (hnx.1 e3)), if_neg e]
    cases hv : (G.whole i).2 with
    | none =>
      cases hw : (G.whole j).2 with
      | none => rw [hv, hw] at e; exact absurd rfl e
      | some w =>
        simp only
        rw [if_pos (show nx φ none = 0 from rfl)]
        obtain ⟨y, hy⟩ := x2 w hw
        obtain ⟨c1, c2⟩ := Un.Gr.whole_some hG hj hw
        by_cases e3 : less (G.whole j).1 (G.whole i).1 = []
        · rw [if_pos e3, e3, if_neg (by simp), nx_some hy, stands_eq (h.vr w y hy).2.2.1 (by rw [h.lo]; exact (h.vr w y hy).2.2.1)]
          exact ⟨_, φ, rfl, (h.stands (y := none) hy c2 (fun q hq => by cases hq) (fun r hr => by have := lW r hr; omega)).up (by omega), by simp, fun _ _ => rfl⟩
        · rw [if_neg e3, if_pos (by have : (less (G.whole j).1 (G.whole i).1).length ≠ 0 := fun e4 => e3 (List.length_eq_zero_iff.1 e4); omega)]
          exact ⟨d, rfl⟩
    | some v =>
      obtain ⟨x, hx⟩ := x1 v hv
      have v0 := (h.vr v x hx).2.1
      have vl := (h.vr v x hx).2.2.1
      obtain ⟨b1, b2⟩ := Un.Gr.whole_some hG hi hv
      have nv : nx φ (some v) ≠ 0 := by rw [nx_some hx]; omega
      cases hw : (G.whole j).2 with
      | none =>
        simp only
        rw [if_neg nv, if_pos (show nx φ none = 0 from rfl)]
        by_cases e3 : less (G.whole i).1 (G.whole j).1 = []
        · rw [if_pos e3, e3, if_neg (by simp), nx_some hx, stands_eq vl (by rw [h.lo]; exact vl)]
          exact ⟨_, φ, rfl, (h.stands (y := none) hx b2 (fun q hq => by cases hq) (fun r hr => by have := lW r hr; omega)).up (by omega), by simp, fun _ _ => rfl⟩
        · rw [if_neg e3, if_pos (by have : (less (G.whole i).1 (G.whole j).1).length ≠ 0 := fun e4 => e3 (List.length_eq_zero_iff.1 e4); omega)]
          exact ⟨d, rfl⟩
      | some w =>
        obtain ⟨y, hy⟩ := x2 w hw
        have yl := (h.vr w y hy).2.2.1
        obtain ⟨c1, c2⟩ := Un.Gr.whole_some hG hj hw
        have nw : nx φ (some w) ≠ 0 := by rw [nx_some hy]; have := (h.vr w y hy).2.1; omega
        have hvw : v ≠ w := fun e2 => e (by rw [hv, hw, e2])
        simp only
        rw [if_neg nv, if_neg nw, if_pos hs, nx_some hx, nx_some hy]
        have hm := h.none_m
        have h1 := h.opened hG hK hm
        have o1 := Un.Gr.opened_ok hG
        have n1 : v ≠ G.m := by omega
        have n2 : w ≠ G.m := by omega
        have hxo : ext φ G.m d.ops.length v = some x := by rw [ext_old n1]; exact hx
        have hyo : ext φ G.m d.ops.length w = some y := by rw [ext_old n2]; exact hy
        have hzo : ext φ G.m d.ops.length G.m = some d.ops.length := ext_new _ _ _
        have lO : ∀ r, r < G.opened.m → (G.opened.W r).1.length ≤ T := fun r hr => by
          have hr' : r < G.m + 1 := hr
          by_cases e0 : r = G.m
          · subst e0; rw [Un.Gr.opened_new]; exact Nat.zero_le _
          · rw [Un.Gr.opened_old (by omega)]; exact lW r (by omega)
        have s1 := h1.stands (e := less (G.whole j).1 (G.whole i).1) (y := some G.m) hxo (by rw [Un.Gr.opened_old b1]; exact b2) (fun q hq => by
          obtain rfl := Option.some.inj hq
          exact ⟨fun e3 => n1 e3.symm, Un.Gr.opened_new G, _, hzo⟩) (fun r hr => by have := lO r hr; omega)
        have hWw : (G.opened.stands v (less (G.whole j).1 (G.whole i).1) (some G.m)).W w = ([], some w) := by
          rw [Un.Gr.stands_W, Un.Gr.opened_old c1, c2, if_neg (fun e3 => hvw (Option.some.inj e3).symm)]
        have hWm : (G.opened.stands v (less (G.whole j).1 (G.whole i).1) (some G.m)).W G.m = ([], some G.m) := by
          rw [Un.Gr.stands_W, Un.Gr.opened_new, if_neg (fun e3 => n1 (Option.some.inj e3).symm)]
        have s2 := s1.stands (e := less (G.whole i).1 (G.whole j).1) (y := some G.m) hyo hWw (fun q hq => by
          obtain rfl := Option.some.inj hq
          exact ⟨fun e3 => n2 e3.symm, hWm, _, hzo⟩) (fun r hr => by
          rw [Un.Gr.stands_W]
          have h5 := lO r hr
          by_cases e3 : (G.opened.W r).2 = some v
          · rw [if_pos e3]
            simp only
            rw [joinB_length]
            omega
          · rw [if_neg e3]
            omega)
        rw [nx_some hzo] at s2
        rw [stands_eq (d := d.putRow [] (-1)) (by simp [D.putRow]; omega) (by simp [D.putRow, h.lo]; omega)]
        simp only [Option.bind_some]
        rw [stands_eq (by simp [D.putRow]; omega) (by simp [D.putRow, h.lo]; omega)]
        refine ⟨_, ext φ G.m d.ops.length, rfl, ?_, by simp [D.putRow], fun r hr => ext_old (by omega)⟩
        rw [nx_some hzo] at s1
        exact s2
end Dg
end Go.Proofs.Ytcogpcalghfghaa

namespace Go.Proofs.Ytcogpcalghfghaa
open Un (Srt joinB Nm Gr St put rvOf less)
namespace Dg

theorem sameRow_none {G : Gr} (hG : G.OK) {i j : Nat} (hi : i < G.n) (hj : j < G.n) (h1 : G.kind i ≠ 6) (h2 : G.kind j ≠ 6) : G.sameRow i j = some G := by
  obtain ⟨a1, a2⟩ := hG.row_none i hi h1
  obtain ⟨b1, b2⟩ := hG.row_none j hj h2
  have e1 : G.whole i = ([], none) := by unfold Un.Gr.whole; rw [a2, a1]
  have e2 : G.whole j = ([], none) := by unfold Un.Gr.whole; rw [b2, b1]
  unfold Un.Gr.sameRow
  rw [e1, e2]
  rfl
/-- What both come to. -/
def Res (m : Nat) (φ : Nat → Option Nat) (A B : Nat) (u : Option Gr) (s : Option (Bool × D)) : Prop :=
  (u = none → ∃ d', s = some (false, d')) ∧ ∀ H, u = some H → ∃ d' φ' K', s = some (true, d') ∧ Sim d' H φ' K' ∧ 1 ≤ K' ∧ Cost d' H K' A B ∧ ∀ r, r < m → φ' r = φ r
theorem Res.yes {m : Nat} {φ φ' : Nat → Option Nat} {A B K' : Nat} {H : Gr} {d' : D} (h : Sim d' H φ' K') (hK : 1 ≤ K') (c : Cost d' H K' A B) (hφ : ∀ r, r < m → φ' r = φ r) : Res m φ A B (some H) (some (true, d')) :=
  ⟨fun e => (by cases e), fun H' e => by obtain rfl := Option.some.inj e; exact ⟨d', φ', K', rfl, h, hK, c, hφ⟩⟩
theorem Res.no {m : Nat} {φ : Nat → Option Nat} {A B : Nat} {d' : D} : Res m φ A B none (some (false, d')) := ⟨fun _ => ⟨d', rfl⟩, fun H e => by cases e⟩
def SameSim (f T k : Nat) : Prop := ∀ (A B : Nat) (G : Gr) (d : D) (φ : Nat → Option Nat) (K a b : Nat), A < big → B + 3 ≤ f → G.n < big → G.OK → G.Bd T → Sim d G φ K → 1 ≤ K → Cost d G K A B → a < G.n → b < G.n → G.roots < k →
  Res G.m φ A B (Un.Gr.uni k G a b) (same f k d (a : Int) (b : Int))
theorem link_cost {d : D} {G : Gr} {K A B a b : Nat} (c : Cost d G K A B) (ha : a < G.n) (hra : G.rep a = a) (hrb : G.rep b = b) (hab : a ≠ b) : Cost (d.lnk a (b : Int)) (G.link a b) (K + 1) (A - 1) (B - 2) ∧ 1 ≤ A ∧ 2 ≤ B := by
  have h1 := Un.Gr.link_roots ha hra hrb hab
  have h2 := c.ops
  have h3 := c.fu
  exact ⟨⟨by show d.ops.length + _ ≤ _; omega, by omega⟩, by omega, by omega⟩
theorem Cost.le {d : D} {G : Gr} {K A B A' B' : Nat} (c : Cost d G K A B) (ha : A ≤ A') (hb : B ≤ B') : Cost d G K A' B' := ⟨by have := c.ops; omega, by have := c.fu; omega⟩
theorem same_step {f T k : Nat} (hT : 3 * T < big) (ih : SameSim f T k) : SameSim f T (k + 1) := by
  intro A B G d φ K a b hA hB hn hG hBd h hK c ha hb hr
  have hra := hG.rep_rep a ha
  have hrb := hG.rep_rep b hb
  have hla := hG.rep_lt a ha
  have hlb := hG.rep_lt b hb
  have hfu := c.fu
  have fa := find_le (h.fd a ha) (show K ≤ f by omega)
  have fb := find_le (h.fd b hb) (show K ≤ f by omega)
  unfold Un.Gr.uni same
  rw [fa, fb]
  simp only [Option.bind_some]
  by_cases e0 : G.rep a = G.rep b
  · rw [if_pos e0, if_pos (show (G.rep a : Int) = (G.rep b : Int) by rw [e0])]
    exact Res.yes h hK c (fun _ _ => rfl)
  rw [if_neg e0, if_neg (show ¬ (G.rep a : Int) = (G.rep b : Int) by omega), at_nat', h.kd _ hla]
  simp only [Option.bind_some]
  by_cases e1 : G.kind (G.rep a) = 0
  · rw [if_pos e1, if_pos (show (G.kind (G.rep a) : Int) = 0 by omega), Int.toNat_natCast]
    obtain ⟨c1, _, _⟩ := link_cost c hla hra hrb e0
    exact Res.yes (h.link hla hlb hra hrb e0) (by omega) (c1.le (by omega) (by omega)) (fun _ _ => rfl)
  rw [if_neg e1, if_neg (show ¬ (G.kind (G.rep a) : Int) = 0 by omega), at_nat', h.kd _ hlb]
  simp only [Option.bind_some]
  by_cases e2 : G.kind (G.rep b) = 0
  · rw [if_pos e2, if_pos (show (G.kind (G.rep b) : Int) = 0 by omega), Int.toNat_natCast]
    obtain ⟨c1, _, _⟩ := link_cost c hlb hrb hra (fun e => e0 e.symm)
    exact Res.yes (h.link hlb hla hrb hra (fun e => e0 e.symm)) (by omega) (c1.le (by omega) (by omega)) (fun _ _ => rfl)
  rw [if_neg e2, if_neg (show ¬ (G.kind (G.rep b) : Int) = 0 by omega)]
  by_cases e3 : G.kind (G.rep a) = G.kind (G.rep b)
  case neg =>
    rw [if_pos e3, if_pos (show (G.kind (G.rep a) : Int) ≠ (G.kind (G.rep b) : Int) by omega)]
    exact Res.no
  rw [if_neg (show ¬ G.kind (G.rep a) ≠ G.kind (G.rep b) by simpa using e3), if_neg (show ¬ (G.kind (G.rep a) : Int) ≠ (G.kind (G.rep b) : Int) by omega)]
  have hS := h.link hla hlb hra hrb e0
  obtain ⟨c1, A1, B2⟩ := link_cost c hla hra hrb e0
  have l1 := Un.Gr.link_ok hG hlb hra hrb e0 (.inr e3)
  have l2 := Un.Gr.link_bd (a := G.rep a) (b := G.rep b) hBd
  have l3 := Un.Gr.link_roots hla hra hrb e0
  have ka := hG.kids_len _ hla
  have kb := hG.kids_len _ hlb
  rw [← e3, ← ka] at kb
  have kla := hG.kids_lt _ hla
  have klb := hG.kids_lt _ hlb
  have hle2 : (G.kids (G.rep a)).length ≤ 2 := by rw [ka]; unfold Un.Gr.arity; split <;> (try split) <;> omega
  rw [at_nat', at_nat', at_nat', at_nat', at_nat', at_nat', h.ka _ hla, h.ka _ hlb, h.kb _ hla, h.kb _ hlb, Int.toNat_natCast]
  simp only [Option.bind_some]
  obtain ⟨ρ, hρ⟩ : ∃ ρ, d.row[G.rep a]? = some ρ := ⟨d.row[G.rep a]'(by rw [h.lr]; exact hla), by simp⟩
  obtain ⟨σ, hσ⟩ : ∃ σ, d.row[G.rep b]? = some σ := ⟨d.row[G.rep b]'(by rw [h.lr]; exact hlb), by simp⟩
  rw [hρ, hσ]
  simp only [Option.bind_some]
  generalize hX : d.lnk (G.rep a) (G.rep b : Int) = X at *
  generalize hH : G.link (G.rep a) (G.rep b) = L at *
  have hLn : L.n = G.n := by rw [← hH]; rfl
  have hLm : L.m = G.m := by rw [← hH]; rfl
  have hLk : L.kind = G.kind := by rw [← hH]; rfl
  have hXr : X.row = d.row := by rw [← hX]; rfl
  have hLr : L.roots < k := by omega
  /- the end: rows -/
  have fin : ∀ (M : Gr) (Y : D) (φ' : Nat → Option Nat) (K' : Nat), M.OK → Un.Gr.Ext L M → M.Bd T → Sim Y M φ' K' → 1 ≤ K' → Cost Y M K' (A - 1) (B - 2) → Kept X Y → (∀ r, r < G.m → φ' r = φ r) →
      Res G.m φ A B (M.sameRow (G.rep a) (G.rep b)) (if (G.kind (G.rep a) : Int) = 6 then Dg.sameRow f Y ρ σ else some (true, Y)) := by
    intro M Y φ' K' m1 m2 m3 m4 m5 m6 m9 m10
    have mk : M.kind = G.kind := m2.kind.trans hLk
    have mn : M.n = G.n := m2.n.trans hLn
    have mo := m6.ops
    have mf := m6.fu
    by_cases e6 : G.kind (G.rep a) = 6
    · rw [if_pos (by omega)]
      have hk1 : M.kind (G.rep a) = 6 := by rw [mk]; exact e6
      have hk2 : M.kind (G.rep b) = 6 := by rw [mk, ← e3]; exact e6
      obtain ⟨p, hp, _⟩ := m4.whole m1 m3 (by omega) (by rw [mn]; exact hla) hk1
      obtain ⟨q, hq, _⟩ := m4.whole m1 m3 (by omega) (by rw [mn]; exact hlb) hk2
      have hYr : Y.row = d.row := m9.row.trans hXr
      have ep : ρ = (p : Int) := by rw [hYr, hρ] at hp; exact Option.some.inj hp
      have eq : σ = (q : Int) := by rw [hYr, hσ] at hq; exact Option.some.inj hq
      subst ep eq
      have hs := m4.sameRow (f := f) m1 m3 hT m5 (by omega) (m6.small m4 (by omega) (by rw [mn]; exact hn)) (by rw [mn]; exact hla) (by rw [mn]; exact hlb) hk1 hk2 hp hq
      cases hx : M.sameRow (G.rep a) (G.rep b) with
      | none =>
        rw [hx] at hs
        obtain ⟨d', s1⟩ := hs
        rw [s1]
        exact Res.no
      | some H =>
        rw [hx] at hs
        obtain ⟨d', φ2, s1, s2, s3, s4⟩ := hs
        obtain ⟨g1, g2⟩ := Un.Gr.sameRow_ok m1 (by rw [mn]; exact hla) (by rw [mn]; exact hlb) hx
        have hro := g2.roots
        rw [s1]
        refine Res.yes s2 (by omega) ⟨by omega, by omega⟩ (fun r hr => ?_)
        rw [s4 r (Nat.lt_of_lt_of_le (by rw [hLm]; exact hr) m2.m), m10 r hr]
    · rw [if_neg (by omega)]
      rw [sameRow_none m1 (by rw [mn]; exact hla) (by rw [mn]; exact hlb) (by rw [mk]; exact e6) (by rw [mk, ← e3]; exact e6)]
      exact Res.yes m4 m5 (m6.le (by omega) (by omega)) m10
  /- one kid -/
  have sub : ∀ (M : Gr) (Y : D) (φ' : Nat → Option Nat) (K' x y : Nat), M.OK → Un.Gr.Ext L M → M.Bd T → Sim Y M φ' K' → 1 ≤ K' → Cost Y M K' (A - 1) (B - 2) → Kept X Y → (∀ r, r < G.m → φ' r = φ r) → x < G.n → y < G.n →
      (Un.Gr.uni k M x y = none → ∃ d', same f k Y (x : Int) (y : Int) = some (false, d')) ∧
      ∀ H, Un.Gr.uni k M x y = some H → ∃ d' φ2 K2, same f k Y (x : Int) (y : Int) = some (true, d') ∧ H.OK ∧ Un.Gr.Ext L H ∧ H.Bd T ∧ Sim d' H φ2 K2 ∧ 1 ≤ K2 ∧ Cost d' H K2 (A - 1) (B - 2) ∧ Kept X d' ∧ ∀ r, r < G.m → φ2 r = φ r := by
    intro M Y φ' K' x y m1 m2 m3 m4 m5 m6 m9 m10 hx hy
    have mn : M.n = G.n := m2.n.trans hLn
    have mr := m2.roots
    obtain ⟨r1, r2⟩ := ih (A - 1) (B - 2) M Y φ' K' x y (by omega) (by omega) (by rw [mn]; exact hn) m1 m3 m4 m5 m6 (by rw [mn]; exact hx) (by rw [mn]; exact hy) (by omega)
    refine ⟨r1, fun H hH => ?_⟩
    obtain ⟨d', φ2, K2, s1, s2, s3, s4, s5⟩ := r2 H hH
    obtain ⟨g1, g2⟩ := Un.Gr.uni_ok k M x y H m1 (by rw [mn]; exact hx) (by rw [mn]; exact hy) hH
    exact ⟨d', φ2, K2, s1, g1, m2.trans l1 g2, Un.Gr.uni_bd k M x y H m1 m3 (by rw [mn]; exact hx) (by rw [mn]; exact hy) hH, s2, s3, s4, m9.trans (same_kept s1), fun r hr => by rw [s5 r (Nat.lt_of_lt_of_le (by rw [hLm]; exact hr) m2.m), m10 r hr]⟩
  have ext0 := Un.Gr.Ext.refl l1
  match hka : G.kids (G.rep a), hkb : G.kids (G.rep b) with
  | [], [] =>
    have e4 : ¬ (0 ≤ kid [] 0) := by decide
    have e5 : ¬ (0 ≤ kid [] 1) := by decide
    rw [if_neg e4]
    simp only [Option.bind_some]
    rw [if_neg (by simp), if_neg e5]
    simp only [Option.bind_some]
    rw [if_neg (by simp)]
    exact fin L X φ (K + 1) l1 ext0 l2 hS (by omega) c1 (Kept.refl X) (fun _ _ => rfl)
  | [x], [y] =>
    have hx := kla x (by rw [hka]; simp)
    have hy := klb y (by rw [hkb]; simp)
    obtain ⟨r1, r2⟩ := sub L X φ (K + 1) x y l1 ext0 l2 hS (by omega) c1 (Kept.refl X) (fun _ _ => rfl) hx hy
    rw [(kid_one x).1, (kid_one y).1, (kid_one x).2, if_pos (show (0 : Int) ≤ (x : Int) by omega)]
    show Res G.m φ A B (((Un.Gr.uni k L x y).bind (Un.Gr.each (Un.Gr.uni k) [] [])).bind _) _
    cases hu : Un.Gr.uni k L x y with
    | none =>
      obtain ⟨d', s1⟩ := r1 hu
      rw [s1]
      exact Res.no
    | some H =>
      obtain ⟨d', φ2, K2, s1, s2, s3, s4, s5, s6, s7, s8, s9⟩ := r2 H hu
      rw [s1]
      simp only [Option.bind_some]
      rw [if_neg (by simp), if_neg (by decide)]
      simp only [Option.bind_some]
      rw [if_neg (by simp)]
      exact fin H d' φ2 K2 s2 s3 s4 s5 s6 s7 s8 s9
  | [x, x'], [y, y'] =>
    have hx := kla x (by rw [hka]; simp)
    have hy := klb y (by rw [hkb]; simp)
    have hx' := kla x' (by rw [hka]; simp)
    have hy' := klb y' (by rw [hkb]; simp)
    obtain ⟨r1, r2⟩ := sub L X φ (K + 1) x y l1 ext0 l2 hS (by omega) c1 (Kept.refl X) (fun _ _ => rfl) hx hy
    rw [(kid_two x x').1, (kid_two y y').1, (kid_two x x').2, (kid_two y y').2, if_pos (show (0 : Int) ≤ (x : Int) by omega)]
    show Res G.m φ A B (((Un.Gr.uni k L x y).bind (fun H => (Un.Gr.uni k H x' y').bind (Un.Gr.each (Un.Gr.uni k) [] []))).bind _) _
    cases hu : Un.Gr.uni k L x y with
    | none =>
      obtain ⟨d', s1⟩ := r1 hu
      rw [s1]
      exact Res.no
    | some H =>
      obtain ⟨d', φ2, K2, s1, s2, s3, s4, s5, s6, s7, s8, s9⟩ := r2 H hu
      obtain ⟨q1, q2⟩ := sub H d' φ2 K2 x' y' s2 s3 s4 s5 s6 s7 s8 s9 hx' hy'
      rw [s1]
      simp only [Option.bind_some]
      rw [if_neg (by simp), if_pos (show (0 : Int) ≤ (x' : Int) by omega)]
      cases hu2 : Un.Gr.uni k H x' y' with
      | none =>
        obtain ⟨d2, t1⟩ := q1 hu2
        rw [t1]
        exact Res.no
      | some H2 =>
        obtain ⟨d2, φ3, K3, t1, t2, t3, t4, t5, t6, t7, t8, t9⟩ := q2 H2 hu2
        rw [t1]
        simp only [Option.bind_some]
        rw [if_neg (by simp)]
        exact fin H2 d2 φ3 K3 t2 t3 t4 t5 t6 t7 t8 t9
  | [], _ :: _ => rw [hka, hkb] at kb; simp at kb
  | _ :: _, [] => rw [hka, hkb] at kb; simp at kb
  | [_], _ :: _ :: _ => rw [hka, hkb] at kb; simp at kb
  | _ :: _ :: _, [_] => rw [hka, hkb] at kb; simp at kb
  | _ :: _ :: _ :: _, _ => rw [hka] at hle2; simp at hle2
  | _, _ :: _ :: _ :: _ => rw [hkb, hka] at kb; rw [hka] at hle2; simp at kb hle2; (try omega)
end Dg
end Go.Proofs.Ytcogpcalghfghaa

namespace Go.Proofs.Ytcogpcalghfghaa
open Un (Srt joinB Nm Gr St put rvOf less)
namespace Dg

theorem numOf_len (l : List Nat) (x : Nat) : l.length ≤ (Un.Gr.numOf l x).2.length ∧ (Un.Gr.numOf l x).2.length ≤ l.length + 1 := by
  unfold Un.Gr.numOf
  split
  · exact ⟨Nat.le_refl _, Nat.le_succ _⟩
  · simp
theorem numOf_mem {l : List Nat} {x y : Nat} (h : y ∈ (Un.Gr.numOf l x).2) : y ∈ l ∨ y = x := by
  unfold Un.Gr.numOf at h
  split at h
  · exact .inl h
  · simpa using h
end Dg
end Go.Proofs.Ytcogpcalghfghaa

namespace Go.Proofs.Ytcogpcalghfghaa
open Un (Srt joinB Nm Gr St put rvOf less Answers)
namespace Dg

theorem add_roots (G : Gr) (k : Nat) (ks : List Nat) (o : List Nm) (r : Option Nat) : (G.add k ks o r).roots ≤ G.roots + 1 := by
  unfold Un.Gr.roots
  show ((List.range (G.n + 1)).filter fun i => (if i = G.n then G.n else G.rep i) == i).length ≤ _
  rw [List.range_succ, List.filter_append, List.length_append]
  have h1 : (List.range G.n).filter (fun i => (if i = G.n then G.n else G.rep i) == i) = (List.range G.n).filter (fun i => G.rep i == i) := by
    refine List.filter_congr (fun i hi => ?_)
    have : i < G.n := by simpa using hi
    rw [if_neg (by omega)]
  rw [h1]
  have h2 := List.length_filter_le (fun i => (if i = G.n then G.n else G.rep i) == i) [G.n]
  simp only [List.length_singleton] at h2
  omega
theorem put_cost : ∀ (t : Ty.P), t.ok → ∀ (S : St), S.OK → ∀ (T : Nat), S.G.Bd T → (put t S).2.G.n ≤ S.G.n + t.parts ∧ (put t S).2.G.roots ≤ S.G.roots + t.parts ∧ (put t S).2.G.Bd (T + t.parts) := by
  intro t
  have leaf : ∀ (k : Nat) (S : St) (T : Nat), S.OK → S.G.Bd T → (S.G.add k [] [] none).n ≤ S.G.n + 1 ∧ (S.G.add k [] [] none).roots ≤ S.G.roots + 1 ∧ (S.G.add k [] [] none).Bd (T + 1) := fun k S T hS h =>
    ⟨Nat.le_refl _, add_roots _ _ _ _ _, (Un.Gr.add_bd hS.g h k [] [] none (fun x hx => by cases hx)).le (by simp)⟩
  induction t with
  | var n =>
    intro _ S hS T h
    unfold put
    cases S.tv.lookup n with
    | some i => exact ⟨Nat.le_add_right _ _, Nat.le_add_right _ _, h.le (Nat.le_add_right _ _)⟩
    | none => exact leaf 0 S T hS h
  | int => intro _ S hS T h; exact leaf 1 S T hS h
  | bool => intro _ S hS T h; exact leaf 2 S T hS h
  | unit => intro _ S hS T h; exact leaf 3 S T hS h
  | list a ih =>
    intro ht S hS T h
    obtain ⟨a1, a2, a3⟩ := ih ht S hS T h
    have b1 := add_roots (put a S).2.G 4 [(put a S).1] [] none
    refine ⟨?_, ?_, ?_⟩
    · show (put a S).2.G.n + 1 ≤ S.G.n + (1 + a.parts); omega
    · show (Un.Gr.add (put a S).2.G 4 [(put a S).1] [] none).roots ≤ S.G.roots + (1 + a.parts); omega
    · exact (Un.Gr.add_bd (Un.put_ok a ht S hS).1.g a3 4 [(put a S).1] [] none (fun x hx => by cases hx)).le (by show T + a.parts + 0 ≤ T + (1 + a.parts); omega)
  | pair a b iha ihb =>
    intro ht S hS T h
    obtain ⟨a1, a2, a3⟩ := iha ht.1 S hS T h
    have ok1 := (Un.put_ok a ht.1 S hS).1
    obtain ⟨b1, b2, b3⟩ := ihb ht.2 _ ok1 _ a3
    have c1 := add_roots (put b (put a S).2).2.G 5 [(put a S).1, (put b (put a S).2).1] [] none
    refine ⟨?_, ?_, ?_⟩
    · show (put b (put a S).2).2.G.n + 1 ≤ S.G.n + (1 + a.parts + b.parts); omega
    · show (Un.Gr.add (put b (put a S).2).2.G 5 [(put a S).1, (put b (put a S).2).1] [] none).roots ≤ S.G.roots + (1 + a.parts + b.parts); omega
    · exact (Un.Gr.add_bd (Un.put_ok b ht.2 _ ok1).1.g b3 5 [(put a S).1, (put b (put a S).2).1] [] none (fun x hx => by cases hx)).le (by show T + a.parts + b.parts + 0 ≤ T + (1 + a.parts + b.parts); omega)
  | fn a b o r iha ihb =>
    intro ht S hS T h
    obtain ⟨t1, t2, t3, t4, t5⟩ := ht
    obtain ⟨a1, a2, a3⟩ := iha t1 S hS T h
    have ok1 := (Un.put_ok a t1 S hS).1
    obtain ⟨b1, b2, b3⟩ := ihb t2 _ ok1 _ a3
    have ok2 := (Un.put_ok b t2 _ ok1).1
    have c1 := add_roots (put b (put a S).2).2.G 6 [(put a S).1, (put b (put a S).2).1] o (rvOf r)
    refine ⟨?_, ?_, ?_⟩
    · show (put b (put a S).2).2.G.n + 1 ≤ S.G.n + (1 + o.length + a.parts + b.parts); omega
    · show (Un.Gr.add (put b (put a S).2).2.G 6 [(put a S).1, (put b (put a S).2).1] o (rvOf r)).roots ≤ S.G.roots + (1 + o.length + a.parts + b.parts); omega
    · refine (Un.Gr.add_bd ok2.g b3 6 [(put a S).1, (put b (put a S).2).1] o (rvOf r) (fun x hx => ?_)).le (by show T + a.parts + b.parts + o.length ≤ T + (1 + o.length + a.parts + b.parts); omega)
      unfold rvOf at hx
      split at hx
      · cases hx
      · have := Option.some.inj hx
        have hb := ok2.big
        unfold Un.big at hb
        omega
end Dg
end Go.Proofs.Ytcogpcalghfghaa
