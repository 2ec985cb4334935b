/-
  Plain laws on the document's lists: how links are followed, how rows are.
  The document's lists say what the graph says: how types are put in.
  The document's lists say what the graph says: how types and rows are made the same.
  The document's lists say what the graph says: how types are made the same.
  The document's lists say what the graph says: what stands within itself; how many parts there are.
  The document's lists say what the graph says: how types are told; what is answered.
  The document's Solve answers what the graph says.
-/
import Derived.Test.YtficijneelpmcaaGreatEf
import Derived.Test.YtficijneelpmcaaGreatSa
set_option linter.unusedVariables false
set_option linter.unusedSimpArgs false
namespace Go.Proofs.YtficijneelpmcaaGreat
open Un (Srt joinB joinB_length joinB_srt joinB_assoc joinB_count joinB_nil srt_ext Nm)
namespace Dg

theorem at_nat' {α : Type} (l : List α) (i : Nat) : at? l (i : Int) = l[i]? := by
  unfold at?
  rw [if_neg (by omega), Int.toNat_natCast]
theorem find_up : ∀ {f : Nat} {l : List Int} {n m : Int}, find f l n = some m → find (f + 1) l n = some m := by
  intro f
  induction f with
  | zero => intro l n m h; cases h
  | succ f ih =>
    intro l n m h
    unfold find at h ⊢
    obtain ⟨x, hx, h⟩ := Option.bind_eq_some_iff.1 h
    rw [hx]
    simp only [Option.bind_some]
    split at h
    · rename_i h0; rw [if_pos h0]; exact ih h
    · rename_i h0; rw [if_neg h0]; exact h
theorem find_le {f g : Nat} {l : List Int} {n m : Int} (h : find f l n = some m) (hg : f ≤ g) : find g l n = some m := by
  induction g with
  | zero =>
    have : f = 0 := by omega
    subst this; exact h
  | succ g ih =>
    by_cases e : f = g + 1
    · subst e; exact h
    · exact find_up (ih (by omega))
theorem find_root {l : List Int} {n : Nat} (h : l[n]? = some (-1)) : find 1 l (n : Int) = some (n : Int) := by
  unfold find
  rw [at_nat', h]
  rfl
theorem find_snoc : ∀ {f : Nat} {l : List Int} {n m x : Int}, find f l n = some m → find f (l ++ [x]) n = some m := by
  intro f
  induction f with
  | zero => intro l n m x h; cases h
  | succ f ih =>
    intro l n m x h
    unfold find at h ⊢
    obtain ⟨y, hy, h⟩ := Option.bind_eq_some_iff.1 h
    obtain ⟨i, rfl, hi⟩ := at_some hy
    rw [at_nat', List.getElem?_append_left (List.getElem?_eq_some_iff.1 hi).1, hi]
    simp only [Option.bind_some]
    split at h
    · rename_i h0; rw [if_pos h0]; exact ih h
    · rename_i h0; rw [if_neg h0]; exact h
/-- A root is laid onto another one. -/
theorem find_set {l : List Int} {a b : Nat} (ha : l[a]? = some (-1)) (hb : l[b]? = some (-1)) (hab : a ≠ b) : ∀ {f : Nat} {n m : Int}, find f l n = some m → find (f + 1) (l.set a (b : Int)) n = some (if m = (a : Int) then (b : Int) else m) := by
  have hal := (List.getElem?_eq_some_iff.1 ha).1
  have hb' : (l.set a (b : Int))[b]? = some (-1) := by rw [List.getElem?_set_ne hab]; exact hb
  intro f
  induction f with
  | zero => intro n m h; cases h
  | succ f ih =>
    intro n m h
    rw [find] at h
    obtain ⟨y, hy, h⟩ := Option.bind_eq_some_iff.1 h
    obtain ⟨i, rfl, hi⟩ := at_some hy
    rw [find, at_nat']
    by_cases e : i = a
    · subst e
      rw [ha] at hi
      obtain rfl := Option.some.inj hi
      simp at h
      subst h
      rw [List.getElem?_set_self hal, if_pos rfl]
      simp only [Option.bind_some]
      rw [if_pos (by omega)]
      exact find_le (find_root hb') (by omega)
    · rw [List.getElem?_set_ne (fun h => e h.symm), hi]
      simp only [Option.bind_some]
      split at h
      · rename_i h0
        rw [if_pos h0]
        exact ih h
      · rename_i h0
        rw [if_neg h0]
        obtain rfl := Option.some.inj h
        rw [if_neg (by omega)]

/- rows -/
theorem whole_up : ∀ {f : Nat} {d : D} {r : Int} {l : List Nm} {p : List Nm × Int}, whole f d r l = some p → whole (f + 1) d r l = some p := by
  intro f
  induction f with
  | zero => intro d r l p h; cases h
  | succ f ih =>
    intro d r l p h
    rw [whole] at h ⊢
    obtain ⟨o, ho, h⟩ := Option.bind_eq_some_iff.1 h
    rw [ho]
    simp only [Option.bind_some]
    split at h
    · rename_i h0
      rw [if_pos h0]
      obtain ⟨x, hx, h⟩ := Option.bind_eq_some_iff.1 h
      rw [hx]
      simp only [Option.bind_some]
      split at h
      · rename_i h1; rw [if_pos h1]; exact h
      · rename_i h1
        rw [if_neg h1]
        split at h
        · rename_i h2; rw [if_pos h2]; exact h
        · rename_i h2; rw [if_neg h2]; exact ih h
    · cases h
theorem whole_le {f g : Nat} {d : D} {r : Int} {l : List Nm} {p : List Nm × Int} (h : whole f d r l = some p) (hg : f ≤ g) : whole g d r l = some p := by
  induction g with
  | zero =>
    have : f = 0 := by omega
    subst this; exact h
  | succ g ih =>
    by_cases e : f = g + 1
    · subst e; exact h
    · exact whole_up (ih (by omega))
theorem joinB_of {a o : List Nm} (ha : Srt a) : joinB a (joinB [] o) = joinB a o :=
  srt_ext (joinB_srt _ _ ha) (joinB_srt _ _ ha) (fun x => by rw [joinB_count, joinB_count, joinB_count]; simp)
/-- What a row has joins whatever stands ahead of it. -/
theorem whole_acc : ∀ {f : Nat} {d : D} {r v : Int} {c l : List Nm}, Srt c → whole f d r c = some (l, v) → ∃ t, l = joinB c t ∧ ∀ a, Srt a → a.length + t.length < big → whole f d r a = some (joinB a t, v) := by
  intro f
  induction f with
  | zero => intro d r v c l _ h; cases h
  | succ f ih =>
    intro d r v c l hc h
    rw [whole] at h
    obtain ⟨o, ho, h⟩ := Option.bind_eq_some_iff.1 h
    split at h
    case isFalse => cases h
    rename_i h0
    obtain ⟨x, hx, h⟩ := Option.bind_eq_some_iff.1 h
    split at h
    · rename_i h1
      obtain ⟨rfl, rfl⟩ := Prod.mk.inj (Option.some.inj h)
      refine ⟨o, rfl, fun a ha hl => ?_⟩
      rw [whole, ho]
      simp only [Option.bind_some]
      rw [if_pos hl, hx]
      simp only [Option.bind_some]
      rw [if_pos h1]
    · rename_i h1
      split at h
      · rename_i h2
        obtain ⟨rfl, rfl⟩ := Prod.mk.inj (Option.some.inj h)
        refine ⟨o, rfl, fun a ha hl => ?_⟩
        rw [whole, ho]
        simp only [Option.bind_some]
        rw [if_pos hl, hx]
        simp only [Option.bind_some]
        rw [if_neg h1, if_pos h2]
      · rename_i h2
        obtain ⟨t, rfl, ht⟩ := ih (joinB_srt _ _ hc) h
        refine ⟨joinB o t, by rw [joinB_assoc hc], fun a ha hl => ?_⟩
        rw [joinB_length] at hl
        rw [whole, ho]
        simp only [Option.bind_some]
        rw [if_pos (by omega), hx]
        simp only [Option.bind_some]
        rw [if_neg h1, if_neg h2, ht _ (joinB_srt _ _ ha) (by rw [joinB_length]; omega), joinB_assoc ha]
theorem whole_on {f : Nat} {d : D} {r v : Int} {l : List Nm} (h : whole f d r [] = some (l, v)) {a : List Nm} (ha : Srt a) (hl : a.length + l.length < big) : whole f d r a = some (joinB a l, v) := by
  obtain ⟨t, rfl, ht⟩ := whole_acc List.Pairwise.nil h
  rw [joinB_length] at hl
  rw [ht a ha (by simpa using hl), joinB_of ha]
theorem whole_srt {f : Nat} {d : D} {r v : Int} {l : List Nm} (h : whole f d r [] = some (l, v)) : Srt l := by
  obtain ⟨t, rfl, _⟩ := whole_acc List.Pairwise.nil h
  exact joinB_srt _ _ List.Pairwise.nil
/-- More rows change nothing. -/
theorem whole_put : ∀ {f : Nat} {d : D} {r : Int} {l : List Nm} {p : List Nm × Int} (o : List Nm) (x : Int), whole f d r l = some p → whole f (d.putRow o x) r l = some p := by
  intro f
  induction f with
  | zero => intro d r l p o x h; cases h
  | succ f ih =>
    intro d r l p o' x' h
    rw [whole] at h ⊢
    obtain ⟨o, ho, h⟩ := Option.bind_eq_some_iff.1 h
    obtain ⟨i, rfl, hi⟩ := at_some ho
    have e1 : at? (d.putRow o' x').ops (i : Int) = some o := by rw [at_nat']; show (d.ops ++ [o'])[i]? = _; rw [List.getElem?_append_left (List.getElem?_eq_some_iff.1 hi).1, hi]
    rw [e1]
    simp only [Option.bind_some]
    split at h
    case isFalse => cases h
    rename_i h0
    rw [if_pos h0]
    obtain ⟨x, hx, h⟩ := Option.bind_eq_some_iff.1 h
    rw [at_nat'] at hx
    have e2 : at? (d.putRow o' x').next (i : Int) = some x := by rw [at_nat']; show (d.next ++ [x'])[i]? = _; rw [List.getElem?_append_left (List.getElem?_eq_some_iff.1 hx).1, hx]
    rw [e2]
    simp only [Option.bind_some]
    split at h
    · rename_i h1; rw [if_pos h1]; exact h
    · rename_i h1
      rw [if_neg h1]
      split at h
      · rename_i h2; rw [if_pos h2]; exact h
      · rename_i h2; rw [if_neg h2]; exact ih o' x' h
theorem whole_same {d d' : D} (h1 : d'.ops = d.ops) (h2 : d'.next = d.next) : ∀ (f : Nat) (r : Int) (l : List Nm), whole f d' r l = whole f d r l := by
  intro f
  induction f with
  | zero => intro r l; rfl
  | succ f ih => intro r l; rw [whole, whole, h1, h2]; simp only [ih]
/-- A variable stands for names and what comes then. -/
theorem whole_set {d : D} {v : Nat} {e : List Nm} {x : Int} (hv0 : v ≠ 0) (ho : d.ops[v]? = some []) (hn : d.next[v]? = some (-1)) (hx : x = 0 ∨ ∃ y : Nat, x = (y : Int) ∧ y ≠ 0 ∧ y ≠ v ∧ d.ops[y]? = some [] ∧ d.next[y]? = some (-1)) :
    ∀ {f : Nat} {r z : Int} {c l : List Nm}, whole f d r c = some (l, z) → l.length + e.length < big →
      whole (f + 1) { d with ops := d.ops.set v e, next := d.next.set v x } r c = some (if z = (v : Int) then (joinB l e, x) else (l, z)) := by
  have hol := (List.getElem?_eq_some_iff.1 ho).1
  have hnl := (List.getElem?_eq_some_iff.1 hn).1
  intro f
  induction f with
  | zero => intro r z c l h; cases h
  | succ f ih =>
    intro r z c l h hl
    rw [whole] at h
    obtain ⟨o, ho', h⟩ := Option.bind_eq_some_iff.1 h
    obtain ⟨i, rfl, hi⟩ := at_some ho'
    split at h
    case isFalse => cases h
    rename_i h0
    obtain ⟨y, hy, h⟩ := Option.bind_eq_some_iff.1 h
    rw [at_nat'] at hy
    rw [whole, at_nat']
    by_cases e1 : i = v
    · subst e1
      rw [ho] at hi
      obtain rfl := Option.some.inj hi
      rw [hn] at hy
      obtain rfl := Option.some.inj hy
      rw [if_pos rfl] at h
      obtain ⟨rfl, rfl⟩ := Prod.mk.inj (Option.some.inj h)
      have ec : joinB c [] = c := rfl
      rw [ec] at hl ⊢
      show ((d.ops.set i e)[i]?).bind _ = _
      rw [List.getElem?_set_self hol]
      simp only [Option.bind_some]
      rw [if_pos hl, at_nat']
      show ((d.next.set i x)[i]?).bind _ = _
      rw [List.getElem?_set_self hnl]
      simp only [Option.bind_some]
      rcases hx with rfl | ⟨y, rfl, y0, yv, y1, y2⟩
      · simp
      · rw [if_neg (by omega), if_neg (by omega), whole, at_nat']
        show ((d.ops.set i e)[y]?).bind _ = _
        rw [List.getElem?_set_ne (fun h => yv h.symm), y1]
        simp only [Option.bind_some]
        rw [if_pos (by rw [joinB_length]; simpa using hl), at_nat']
        show ((d.next.set i (y : Int))[y]?).bind _ = _
        rw [List.getElem?_set_ne (fun h => yv h.symm), y2]
        simp only [Option.bind_some]
        rfl
    · show ((d.ops.set v e)[i]?).bind _ = _
      rw [List.getElem?_set_ne (fun h => e1 h.symm), hi]
      simp only [Option.bind_some]
      rw [if_pos h0, at_nat']
      show ((d.next.set v x)[i]?).bind _ = _
      rw [List.getElem?_set_ne (fun h => e1 h.symm), hy]
      simp only [Option.bind_some]
      split at h
      · rename_i h1
        rw [if_pos h1]
        obtain ⟨rfl, rfl⟩ := Prod.mk.inj (Option.some.inj h)
        rw [if_neg (by omega)]
      · rename_i h1
        rw [if_neg h1]
        split at h
        · rename_i h2
          rw [if_pos h2]
          obtain ⟨rfl, rfl⟩ := Prod.mk.inj (Option.some.inj h)
          rw [if_neg (by omega)]
        · rename_i h2
          rw [if_neg h2]
          exact ih h hl
end Dg
end Go.Proofs.YtficijneelpmcaaGreat

namespace Go.Proofs.YtficijneelpmcaaGreat
open Un (Srt joinB joinB_length joinB_srt joinB_assoc joinB_nil Nm Gr St put rvOf)
namespace Dg

def kid (l : List Nat) (j : Nat) : Int := match l[j]? with
  | some x => (x : Int)
  | none => -1
def nx (φ : Nat → Option Nat) : Option Nat → Int
  | none => 0
  | some v => (((φ v).getD 0 : Nat) : Int)
theorem nx_some {φ : Nat → Option Nat} {v x : Nat} (h : φ v = some x) : nx φ (some v) = (x : Int) := by simp [nx, h]
structure Sim (d : D) (G : Gr) (φ : Nat → Option Nat) (K : Nat) : Prop where
  lk : d.kind.length = G.n
  la : d.a.length = G.n
  lb : d.b.length = G.n
  lr : d.row.length = G.n
  ll : d.link.length = G.n
  lo : d.next.length = d.ops.length
  o0 : 1 ≤ d.ops.length
  kd : ∀ i, i < G.n → d.kind[i]? = some (G.kind i : Int)
  ka : ∀ i, i < G.n → d.a[i]? = some (kid (G.kids i) 0)
  kb : ∀ i, i < G.n → d.b[i]? = some (kid (G.kids i) 1)
  fd : ∀ i, i < G.n → find K d.link (i : Int) = some (G.rep i : Int)
  rt : ∀ i, i < G.n → G.rep i = i → d.link[i]? = some (-1)
  rw : ∀ i, i < G.n → G.kind i = 6 → ∃ ρ : Nat, d.row[i]? = some (ρ : Int) ∧ d.ops[ρ]? = some (G.ops i) ∧ d.next[ρ]? = some (nx φ (G.rv i)) ∧ (∀ r, φ r ≠ some ρ) ∧ (∀ r, G.rv i = some r → ∃ x, φ r = some x)
  vr : ∀ r x, φ r = some x → r < G.m ∧ x ≠ 0 ∧ x < d.ops.length ∧ whole K d (x : Int) [] = some ((G.W r).1, nx φ (G.W r).2) ∧ (∀ v, (G.W r).2 = some v → ∃ y, φ v = some y)
  vt : ∀ v x, φ v = some x → G.W v = ([], some v) → d.ops[x]? = some [] ∧ d.next[x]? = some (-1)
  un : ∀ r, r < G.m → φ r = none → G.W r = ([], some r)
  inj : ∀ r r' x, φ r = some x → φ r' = some x → r = r'
theorem Sim.up {d : D} {G : Gr} {φ : Nat → Option Nat} {K L : Nat} (h : Sim d G φ K) (hl : K ≤ L) : Sim d G φ L :=
  { h with
    fd := fun i hi => find_le (h.fd i hi) hl
    vr := fun r x hx => by
      obtain ⟨h1, h2, h3, h4, h5⟩ := h.vr r x hx
      exact ⟨h1, h2, h3, whole_le h4 hl, h5⟩ }
/-- The row of a node, in whole. -/
theorem Sim.whole {d : D} {G : Gr} {φ : Nat → Option Nat} {K T : Nat} (h : Sim d G φ K) (hG : G.OK) (hb : G.Bd T) (hT : T < big) {i : Nat} (hi : i < G.n) (hk : G.kind i = 6) :
    ∃ ρ : Nat, d.row[i]? = some (ρ : Int) ∧ Dg.whole (K + 1) d (ρ : Int) [] = some ((G.whole i).1, nx φ (G.whole i).2) ∧ (∀ v, (G.whole i).2 = some v → ∃ y, φ v = some y) := by
  obtain ⟨ρ, h1, h2, h3, _, h5⟩ := h.rw i hi hk
  have hw := Un.Gr.Bd.whole hb hi
  refine ⟨ρ, h1, ?_, ?_⟩
  · rw [Dg.whole, at_nat', h2]
    simp only [Option.bind_some]
    have hs := hG.ops_srt i hi
    have hle : (G.ops i).length ≤ (G.whole i).1.length := by
      unfold Un.Gr.whole
      cases hr : G.rv i with
      | none => exact Nat.le_refl _
      | some r => simp only; rw [joinB_length]; omega
    rw [if_pos (by simp; omega), at_nat', h3]
    simp only [Option.bind_some]
    rw [joinB_nil hs]
    unfold Un.Gr.whole at hw ⊢
    cases hr : G.rv i with
    | none => rfl
    | some r =>
      rw [hr] at hw
      simp only at hw ⊢
      obtain ⟨x, hx⟩ := h5 r hr
      obtain ⟨_, x0, _, v4, _⟩ := h.vr r x hx
      rw [nx_some hx, if_neg (by omega), if_neg (by omega)]
      rw [joinB_length] at hw
      exact whole_on v4 hs (by omega)
  · intro v hv
    unfold Un.Gr.whole at hv
    cases hr : G.rv i with
    | none => rw [hr] at hv; cases hv
    | some r =>
      rw [hr] at hv
      obtain ⟨x, hx⟩ := h5 r hr
      exact (h.vr r x hx).2.2.2.2 v hv
theorem snoc_at {α : Type} {l : List α} {x : α} {i n : Nat} (hn : l.length = n) (hi : i < n + 1) : (l ++ [x])[i]? = if i = n then some x else l[i]? := by
  subst hn
  by_cases e : i = l.length
  · subst e; simp
  · rw [if_neg e, List.getElem?_append_left (by omega)]
/-- A node is put in. -/
theorem Sim.add {d : D} {G : Gr} {φ : Nat → Option Nat} {K : Nat} (h : Sim d G φ K) (hK : 1 ≤ K) {k : Nat} {ks : List Nat} {o : List Nm} {r : Option Nat} {rr : Int}
    (hr : k = 6 → ∃ ρ : Nat, rr = (ρ : Int) ∧ d.ops[ρ]? = some o ∧ d.next[ρ]? = some (nx φ r) ∧ (∀ q, φ q ≠ some ρ) ∧ (∀ q, r = some q → ∃ x, φ q = some x)) : Sim (d.put k (kid ks 0) (kid ks 1) rr) (G.add k ks o r) φ K where
  lk := by simp [D.put, Un.Gr.add, h.lk]
  la := by simp [D.put, Un.Gr.add, h.la]
  lb := by simp [D.put, Un.Gr.add, h.lb]
  lr := by simp [D.put, Un.Gr.add, h.lr]
  ll := by simp [D.put, Un.Gr.add, h.ll]
  lo := h.lo
  o0 := h.o0
  kd i hi := by
    have hi' : i < G.n + 1 := hi
    show (d.kind ++ [(k : Int)])[i]? = some (((if i = G.n then k else G.kind i) : Nat) : Int)
    rw [snoc_at h.lk hi']
    by_cases e : i = G.n
    · rw [if_pos e, if_pos e]
    · rw [if_neg e, if_neg e, h.kd i (by omega)]
  ka i hi := by
    have hi' : i < G.n + 1 := hi
    show (d.a ++ [kid ks 0])[i]? = some (kid (if i = G.n then ks else G.kids i) 0)
    rw [snoc_at h.la hi']
    by_cases e : i = G.n
    · rw [if_pos e, if_pos e]
    · rw [if_neg e, if_neg e, h.ka i (by omega)]
  kb i hi := by
    have hi' : i < G.n + 1 := hi
    show (d.b ++ [kid ks 1])[i]? = some (kid (if i = G.n then ks else G.kids i) 1)
    rw [snoc_at h.lb hi']
    by_cases e : i = G.n
    · rw [if_pos e, if_pos e]
    · rw [if_neg e, if_neg e, h.kb i (by omega)]
  fd i hi := by
    have hi' : i < G.n + 1 := hi
    show find K (d.link ++ [-1]) (i : Int) = some (((if i = G.n then G.n else G.rep i) : Nat) : Int)
    by_cases e : i = G.n
    · rw [if_pos e]
      subst e
      exact find_le (find_root (by rw [snoc_at h.ll (by omega), if_pos rfl])) hK
    · rw [if_neg e]
      exact find_snoc (h.fd i (by omega))
  rt i hi hr' := by
    have hi' : i < G.n + 1 := hi
    have hr2 : (if i = G.n then G.n else G.rep i) = i := hr'
    show (d.link ++ [-1])[i]? = some (-1)
    rw [snoc_at h.ll hi']
    by_cases e : i = G.n
    · rw [if_pos e]
    · rw [if_neg e] at hr2 ⊢
      exact h.rt i (by omega) hr2
  rw i hi hk := by
    have hi' : i < G.n + 1 := hi
    have hk' : (if i = G.n then k else G.kind i) = 6 := hk
    show ∃ ρ : Nat, (d.row ++ [rr])[i]? = some (ρ : Int) ∧ d.ops[ρ]? = some (if i = G.n then o else G.ops i) ∧ d.next[ρ]? = some (nx φ (if i = G.n then r else G.rv i)) ∧ (∀ r, φ r ≠ some ρ) ∧ (∀ q, (if i = G.n then r else G.rv i) = some q → ∃ x, φ q = some x)
    rw [snoc_at h.lr hi']
    by_cases e : i = G.n
    · rw [if_pos e] at hk' ⊢
      rw [if_pos e, if_pos e]
      obtain ⟨ρ, rfl, h2, h3, h4, h5⟩ := hr hk'
      exact ⟨ρ, rfl, h2, h3, h4, h5⟩
    · rw [if_neg e] at hk' ⊢
      rw [if_neg e, if_neg e]
      exact h.rw i (by omega) hk'
  vr r x hx := by
    obtain ⟨h1, h2, h3, h4, h5⟩ := h.vr r x hx
    exact ⟨h1, h2, h3, (whole_same (d := d) (d' := d.put k (kid ks 0) (kid ks 1) rr) rfl rfl K x []).trans h4, h5⟩
  vt := h.vt
  un := h.un
  inj := h.inj
/-- A row is put in. -/
theorem Sim.putRow {d : D} {G : Gr} {φ : Nat → Option Nat} {K : Nat} (h : Sim d G φ K) (o : List Nm) (x : Int) : Sim (d.putRow o x) G φ K where
  lk := h.lk
  la := h.la
  lb := h.lb
  lr := h.lr
  ll := h.ll
  lo := by simp [D.putRow, h.lo]
  o0 := by simp [D.putRow]
  kd := h.kd
  ka := h.ka
  kb := h.kb
  fd := h.fd
  rt := h.rt
  rw i hi hk := by
    obtain ⟨ρ, h1, h2, h3, h4, h5⟩ := h.rw i hi hk
    refine ⟨ρ, h1, ?_, ?_, h4, h5⟩
    · show (d.ops ++ [o])[ρ]? = _
      rw [List.getElem?_append_left (List.getElem?_eq_some_iff.1 h2).1, h2]
    · show (d.next ++ [x])[ρ]? = _
      rw [List.getElem?_append_left (List.getElem?_eq_some_iff.1 h3).1, h3]
  vr r y hy := by
    obtain ⟨h1, h2, h3, h4, h5⟩ := h.vr r y hy
    exact ⟨h1, h2, by simp [D.putRow]; omega, whole_put o x h4, h5⟩
  vt v y hy hw := by
    obtain ⟨h1, h2⟩ := h.vt v y hy hw
    refine ⟨?_, ?_⟩
    · show (d.ops ++ [o])[y]? = _
      rw [List.getElem?_append_left (List.getElem?_eq_some_iff.1 h1).1, h1]
    · show (d.next ++ [x])[y]? = _
      rw [List.getElem?_append_left (List.getElem?_eq_some_iff.1 h2).1, h2]
  un := h.un
  inj := h.inj
def ext (φ : Nat → Option Nat) (r x : Nat) : Nat → Option Nat := fun q => if q = r then some x else φ q
theorem ext_old {φ : Nat → Option Nat} {r x q : Nat} (h : q ≠ r) : ext φ r x q = φ q := by simp [ext, h]
theorem ext_new (φ : Nat → Option Nat) (r x : Nat) : ext φ r x r = some x := by simp [ext]
theorem nx_ext {φ : Nat → Option Nat} {r x : Nat} (hr : φ r = none) {v : Option Nat} (hv : ∀ q, v = some q → ∃ y, φ q = some y) : nx (ext φ r x) v = nx φ v := by
  cases v with
  | none => rfl
  | some q =>
    obtain ⟨y, hy⟩ := hv q rfl
    have hq : q ≠ r := fun e => by rw [e, hr] at hy; cases hy
    simp [nx, ext_old hq]
/-- A row variable is met. -/
theorem Sim.open {d : D} {G : Gr} {φ : Nat → Option Nat} {K r : Nat} (h : Sim d G φ K) (hK : 1 ≤ K) (hr : φ r = none) (hm : r < G.m) : Sim (d.putRow [] (-1)) G (ext φ r d.ops.length) K := by
  have h' := h.putRow [] (-1)
  have hw := h.un r hm hr
  have n1 : (d.ops ++ [([] : List Nm)])[d.ops.length]? = some [] := by simp
  have n2 : (d.next ++ [(-1 : Int)])[d.ops.length]? = some (-1) := by rw [← h.lo]; simp
  refine { h' with rw := fun i hi hk => ?_, vr := fun q y hy => ?_, vt := fun q y hy hq => ?_, un := fun q hq hn => ?_, inj := fun q q' y h1 h2 => ?_ }
  · obtain ⟨ρ, h1, h2, h3, h4, h5⟩ := h.rw i hi hk
    obtain ⟨ρ', h1', h2', h3', h4', h5'⟩ := h'.rw i hi hk
    have : ρ = ρ' := by
      have e : d.row[i]? = some (ρ' : Int) := h1'
      rw [h1] at e
      have := Option.some.inj e
      omega
    subst this
    have hρ := (List.getElem?_eq_some_iff.1 h2).1
    refine ⟨ρ, h1, h2', by rw [nx_ext hr h5]; exact h3', fun q e => ?_, fun q hq => ?_⟩
    · by_cases e1 : q = r
      · subst e1
        rw [ext_new] at e
        have := Option.some.inj e
        omega
      · rw [ext_old e1] at e
        exact h4 q e
    · obtain ⟨x, hx⟩ := h5 q hq
      have e1 : q ≠ r := fun e => by rw [e, hr] at hx; cases hx
      exact ⟨x, by rw [ext_old e1]; exact hx⟩
  · by_cases e1 : q = r
    · subst e1
      rw [ext_new] at hy
      obtain rfl := Option.some.inj hy
      have h0 := h.o0
      refine ⟨hm, by omega, by simp [D.putRow], ?_, fun v hv => ?_⟩
      · rw [hw]
        refine whole_le (f := 1) ?_ hK
        rw [Dg.whole, at_nat']
        show ((d.ops ++ [([] : List Nm)])[d.ops.length]?).bind _ = _
        rw [n1]
        simp only [Option.bind_some]
        rw [if_pos (by simp [big]), at_nat']
        show ((d.next ++ [(-1 : Int)])[d.ops.length]?).bind _ = _
        rw [n2]
        simp only [Option.bind_some]
        rw [nx_some (ext_new φ q _)]
        simp [joinB]
      · rw [hw] at hv
        obtain rfl := Option.some.inj hv
        exact ⟨_, ext_new _ _ _⟩
    · rw [ext_old e1] at hy
      obtain ⟨h1, h2, h3, h4, h5⟩ := h'.vr q y hy
      refine ⟨h1, h2, h3, by rw [nx_ext hr h5]; exact h4, fun v hv => ?_⟩
      obtain ⟨z, hz⟩ := h5 v hv
      have e2 : v ≠ r := fun e => by rw [e, hr] at hz; cases hz
      exact ⟨z, by rw [ext_old e2]; exact hz⟩
  · by_cases e1 : q = r
    · subst e1
      rw [ext_new] at hy
      obtain rfl := Option.some.inj hy
      exact ⟨n1, n2⟩
    · rw [ext_old e1] at hy
      exact h'.vt q y hy hq
  · by_cases e1 : q = r
    · subst e1; rw [ext_new] at hn; cases hn
    · rw [ext_old e1] at hn
      exact h.un q hq hn
  · by_cases e1 : q = r
    · by_cases e2 : q' = r
      · rw [e1, e2]
      · subst e1
        rw [ext_new] at h1
        obtain rfl := Option.some.inj h1
        rw [ext_old e2] at h2
        have := (h.vr q' _ h2).2.2.1
        omega
    · by_cases e2 : q' = r
      · subst e2
        rw [ext_new] at h2
        obtain rfl := Option.some.inj h2
        rw [ext_old e1] at h1
        have := (h.vr q _ h1).2.2.1
        omega
      · rw [ext_old e1] at h1
        rw [ext_old e2] at h2
        exact h.inj q q' y h1 h2
/-- With the maps of the variables' numbers. -/
structure SimS (d : D) (S : St) (φ : Nat → Option Nat) (K : Nat) : Prop where
  g : Sim d S.G φ K
  tv : ∀ n : Nat, d.tv.lookup (n : Int) = (S.tv.lookup n).map (fun i : Nat => (i : Int))
  rv : ∀ r : Nat, r < Un.big → d.rv.lookup (r : Int) = (φ r).map (fun x : Nat => (x : Int))
theorem Sim.tvs {d : D} {G : Gr} {φ : Nat → Option Nat} {K : Nat} (h : Sim d G φ K) (m : List (Int × Int)) : Sim { d with tv := m } G φ K := by
  refine { h with vr := fun r x hx => ?_ }
  obtain ⟨h1, h2, h3, h4, h5⟩ := h.vr r x hx
  exact ⟨h1, h2, h3, (whole_same (d := d) (d' := { d with tv := m }) rfl rfl K x []).trans h4, h5⟩
theorem Sim.rvs {d : D} {G : Gr} {φ : Nat → Option Nat} {K : Nat} (h : Sim d G φ K) (m : List (Int × Int)) : Sim { d with rv := m } G φ K := by
  refine { h with vr := fun r x hx => ?_ }
  obtain ⟨h1, h2, h3, h4, h5⟩ := h.vr r x hx
  exact ⟨h1, h2, h3, (whole_same (d := d) (d' := { d with rv := m }) rfl rfl K x []).trans h4, h5⟩
theorem lookup_cons' (n i m : Nat) (l : List (Nat × Nat)) : ((n, i) :: l).lookup m = if m = n then some i else l.lookup m := by
  rw [List.lookup_cons]
  by_cases e : m = n
  · subst e; simp
  · have : (m == n) = false := by simpa using e
    rw [this, if_neg e]
/-- The row variable of a type. -/
theorem SimS.rowVar {d : D} {S : St} {φ : Nat → Option Nat} {K r : Nat} (h : SimS d S φ K) (hK : 1 ≤ K) (hS : S.OK) (hr : r ≤ 1000000000) :
    ∃ φ', SimS (Dg.rowVar r d).2 S φ' K ∧ (Dg.rowVar r d).1 = nx φ' (rvOf r) ∧ ∀ q, rvOf r = some q → ∃ x, φ' q = some x := by
  unfold Dg.rowVar rvOf
  by_cases r0 : r = 0
  · rw [if_pos r0, if_pos r0]
    exact ⟨φ, h, rfl, fun q hq => by cases hq⟩
  · rw [if_neg r0, if_neg r0]
    have hrb : r < Un.big := by unfold Un.big; omega
    have hl := h.rv r hrb
    cases hx : φ r with
    | some x =>
      rw [hx] at hl
      rw [show d.rv.lookup (r : Int) = some (x : Int) from hl]
      exact ⟨φ, h, (nx_some hx).symm, fun q hq => by obtain rfl := Option.some.inj hq; exact ⟨x, hx⟩⟩
    | none =>
      rw [hx] at hl
      rw [show d.rv.lookup (r : Int) = none from hl]
      refine ⟨ext φ r d.ops.length, ⟨(h.g.open hK hx (Nat.lt_of_lt_of_le hrb hS.big)).rvs _, h.tv, fun q hq => ?_⟩, (nx_some (ext_new _ _ _)).symm, fun q hq => by obtain rfl := Option.some.inj hq; exact ⟨_, ext_new _ _ _⟩⟩
      show (mput (r : Int) (d.ops.length : Int) d.rv).lookup (q : Int) = _
      rw [mput_look]
      by_cases e : q = r
      · subst e; rw [if_pos rfl, ext_new]; rfl
      · rw [if_neg (by omega), ext_old e]; exact h.rv q hq
theorem kid_one (x : Nat) : kid [x] 0 = (x : Int) ∧ kid [x] 1 = -1 := ⟨rfl, rfl⟩
theorem kid_two (x y : Nat) : kid [x, y] 0 = (x : Int) ∧ kid [x, y] 1 = (y : Int) := ⟨rfl, rfl⟩
/-- Types are put in alike. -/
theorem SimS.of {K : Nat} (hK : 1 ≤ K) : ∀ (t : Ty.P), t.ok → ∀ (d : D) (S : St) (φ : Nat → Option Nat), S.OK → SimS d S φ K → ∃ φ', (Dg.of t d).1 = ((put t S).1 : Int) ∧ SimS (Dg.of t d).2 (put t S).2 φ' K := by
  intro t
  have leaf : ∀ (k : Nat) (d : D) (S : St) (φ : Nat → Option Nat), k ≠ 6 → SimS d S φ K → ∃ φ', (d.kind.length : Int) = (S.G.n : Int) ∧ SimS (d.put k (-1) (-1) 0) ⟨S.G.add k [] [] none, S.tv⟩ φ' K := fun k d S φ hk h =>
    ⟨φ, by rw [h.g.lk], h.g.add hK (ks := []) (fun e => absurd e hk), h.tv, h.rv⟩
  induction t with
  | var n =>
    intro _ d S φ hS h
    unfold Dg.of put
    have hl := h.tv n
    cases hx : S.tv.lookup n with
    | some i =>
      rw [hx] at hl
      rw [show d.tv.lookup (n : Int) = some (i : Int) from hl]
      exact ⟨φ, rfl, h⟩
    | none =>
      rw [hx] at hl
      rw [show d.tv.lookup (n : Int) = none from hl]
      dsimp only
      refine ⟨φ, by simp [h.g.lk], (h.g.add hK (k := 0) (ks := []) (o := []) (r := none) (rr := 0) (fun e => absurd e (by decide))).tvs _, fun m => ?_, h.rv⟩
      show (mput (n : Int) (d.kind.length : Int) d.tv).lookup (m : Int) = (((n, S.G.n) :: S.tv).lookup m).map _
      rw [mput_look, lookup_cons', h.g.lk]
      by_cases e : m = n
      · subst e; rw [if_pos rfl, if_pos rfl]; rfl
      · rw [if_neg (by omega), if_neg e]; exact h.tv m
  | int => intro _ d S φ hS h; exact leaf 1 d S φ (by decide) h
  | bool => intro _ d S φ hS h; exact leaf 2 d S φ (by decide) h
  | unit => intro _ d S φ hS h; exact leaf 3 d S φ (by decide) h
  | list a ih =>
    intro ht d S φ hS h
    obtain ⟨φ1, e1, h1⟩ := ih ht d S φ hS h
    refine ⟨φ1, ?_, ?_, h1.tv, h1.rv⟩
    · show ((Dg.of a d).2.kind.length : Int) = ((put a S).2.G.n : Int)
      rw [h1.g.lk]
    · show Sim ((Dg.of a d).2.put 4 (Dg.of a d).1 (-1) 0) _ _ _
      rw [e1]
      exact h1.g.add hK (ks := [(put a S).1]) (fun e => absurd e (by decide))
  | pair a b iha ihb =>
    intro ht d S φ hS h
    obtain ⟨φ1, e1, h1⟩ := iha ht.1 d S φ hS h
    obtain ⟨φ2, e2, h2⟩ := ihb ht.2 _ _ φ1 (Un.put_ok a ht.1 S hS).1 h1
    refine ⟨φ2, ?_, ?_, h2.tv, h2.rv⟩
    · show ((Dg.of b (Dg.of a d).2).2.kind.length : Int) = ((put b (put a S).2).2.G.n : Int)
      rw [h2.g.lk]
    · show Sim ((Dg.of b (Dg.of a d).2).2.put 5 (Dg.of a d).1 (Dg.of b (Dg.of a d).2).1 0) _ _ _
      rw [e1, e2]
      exact h2.g.add hK (ks := [(put a S).1, (put b (put a S).2).1]) (fun e => absurd e (by decide))
  | fn a b o r iha ihb =>
    intro ht d S φ hS h
    obtain ⟨t1, t2, t3, t4, t5⟩ := ht
    obtain ⟨φ1, e1, h1⟩ := iha t1 d S φ hS h
    have ok1 := (Un.put_ok a t1 S hS).1
    obtain ⟨φ2, e2, h2⟩ := ihb t2 _ _ φ1 ok1 h1
    obtain ⟨φ3, h3, e3, x3⟩ := h2.rowVar hK (Un.put_ok b t2 _ ok1).1 t3
    refine ⟨φ3, ?_, ?_, h3.tv, h3.rv⟩
    · show (((Dg.rowVar r (Dg.of b (Dg.of a d).2).2).2.putRow o (Dg.rowVar r (Dg.of b (Dg.of a d).2).2).1).kind.length : Int) = ((put b (put a S).2).2.G.n : Int)
      show ((Dg.rowVar r (Dg.of b (Dg.of a d).2).2).2.kind.length : Int) = _
      rw [h3.g.lk]
    · show Sim (((Dg.rowVar r (Dg.of b (Dg.of a d).2).2).2.putRow o (Dg.rowVar r (Dg.of b (Dg.of a d).2).2).1).put 6 (Dg.of a d).1 (Dg.of b (Dg.of a d).2).1 ((Dg.rowVar r (Dg.of b (Dg.of a d).2).2).2.ops.length : Int)) _ _ _
      rw [e1, e2, e3]
      refine (h3.g.putRow o (nx φ3 (rvOf r))).add hK (ks := [(put a S).1, (put b (put a S).2).1]) (fun _ => ⟨_, rfl, ?_, ?_, fun q e => ?_, x3⟩)
      · show ((Dg.rowVar r (Dg.of b (Dg.of a d).2).2).2.ops ++ [o])[_]? = _
        simp
      · show ((Dg.rowVar r (Dg.of b (Dg.of a d).2).2).2.next ++ [_])[_]? = _
        rw [← h3.g.lo]
        simp
      · have := (h3.g.vr q _ e).2.2.1
        omega
end Dg
end Go.Proofs.YtficijneelpmcaaGreat

namespace Go.Proofs.YtficijneelpmcaaGreat
open Un (Srt joinB joinB_length joinB_srt joinB_assoc joinB_nil Nm Gr St put rvOf less)
namespace Dg

theorem Sim.link {d : D} {G : Gr} {φ : Nat → Option Nat} {K a b : Nat} (h : Sim d G φ K) (ha : a < G.n) (hb : b < G.n) (hra : G.rep a = a) (hrb : G.rep b = b) (hab : a ≠ b) : Sim (d.lnk a (b : Int)) (G.link a b) φ (K + 1) := by
  have h1 := h.up (Nat.le_succ K)
  refine { h1 with ll := ?_, fd := fun i hi => ?_, rt := fun i hi hr => ?_, vr := fun r x hx => ?_ }
  · show (d.link.set a (b : Int)).length = G.n
    rw [List.length_set, h.ll]
  · show find (K + 1) (d.link.set a (b : Int)) (i : Int) = some (((if G.rep i = a then b else G.rep i) : Nat) : Int)
    rw [find_set (h.rt a ha hra) (h.rt b hb hrb) hab (h.fd i hi)]
    by_cases e : G.rep i = a
    · rw [if_pos (by omega), if_pos e]
    · rw [if_neg (by omega), if_neg e]
  · have hr' : (if G.rep i = a then b else G.rep i) = i := hr
    show (d.link.set a (b : Int))[i]? = some (-1)
    by_cases e : G.rep i = a
    · rw [if_pos e] at hr'
      rw [← hr', hrb] at e
      exact absurd e.symm hab
    · rw [if_neg e] at hr'
      have hi' : i < G.n := hi
      rw [List.getElem?_set_ne (fun e1 => e (by rw [hr']; exact e1.symm))]
      exact h.rt i hi' hr'
  · obtain ⟨q1, q2, q3, q4, q5⟩ := h1.vr r x hx
    exact ⟨q1, q2, q3, (whole_same (d := d) (d' := d.lnk a (b : Int)) rfl rfl (K + 1) x []).trans q4, q5⟩
theorem nx_eq {d : D} {G : Gr} {φ : Nat → Option Nat} {K : Nat} (h : Sim d G φ K) {u v : Option Nat} (hu : ∀ q, u = some q → ∃ y, φ q = some y) (hv : ∀ q, v = some q → ∃ y, φ q = some y) : nx φ u = nx φ v ↔ u = v := by
  constructor
  · intro e
    cases u with
    | none =>
      cases v with
      | none => rfl
      | some v =>
        obtain ⟨y, hy⟩ := hv v rfl
        rw [nx_some hy] at e
        have h0 := (h.vr v y hy).2.1
        have : (0 : Int) = (y : Int) := e
        omega
    | some u =>
      obtain ⟨x, hx⟩ := hu u rfl
      cases v with
      | none =>
        rw [nx_some hx] at e
        have h0 := (h.vr u x hx).2.1
        have : (x : Int) = (0 : Int) := e
        omega
      | some v =>
        obtain ⟨y, hy⟩ := hv v rfl
        rw [nx_some hx, nx_some hy] at e
        have : x = y := by omega
        subst this
        rw [h.inj u v x hx hy]
  · intro e; rw [e]
/-- A row variable stands for names and what comes then. -/
theorem Sim.stands {d : D} {G : Gr} {φ : Nat → Option Nat} {K v x : Nat} {e : List Nm} {y : Option Nat} (h : Sim d G φ K) (hv : φ v = some x) (hw : G.W v = ([], some v))
    (hy : ∀ q, y = some q → q ≠ v ∧ G.W q = ([], some q) ∧ ∃ z, φ q = some z) (hl : ∀ r, r < G.m → (G.W r).1.length + e.length < big) :
    Sim { d with ops := d.ops.set x e, next := d.next.set x (nx φ y) } (G.stands v e y) φ (K + 1) := by
  have h1 := h.up (Nat.le_succ K)
  obtain ⟨vo, vn⟩ := h.vt v x hv hw
  have x0 := (h.vr v x hv).2.1
  have hxy : nx φ y = 0 ∨ ∃ z : Nat, nx φ y = (z : Int) ∧ z ≠ 0 ∧ z ≠ x ∧ d.ops[z]? = some [] ∧ d.next[z]? = some (-1) := by
    cases y with
    | none => exact .inl rfl
    | some q =>
      obtain ⟨q1, q2, z, hz⟩ := hy q rfl
      obtain ⟨zo, zn⟩ := h.vt q z hz q2
      exact .inr ⟨z, nx_some hz, (h.vr q z hz).2.1, fun e1 => q1 (h.inj q v x (e1 ▸ hz) hv), zo, zn⟩
  refine { h1 with lo := ?_, o0 := ?_, rw := fun i hi hk => ?_, vr := fun r q hq => ?_, vt := fun u q hq hu => ?_, un := fun r hr hn => ?_ }
  · simp [h.lo]
  · simpa using h.o0
  · obtain ⟨ρ, r1, r2, r3, r4, r5⟩ := h.rw i hi hk
    have hne : x ≠ ρ := fun e1 => r4 v (e1 ▸ hv)
    exact ⟨ρ, r1, by rw [List.getElem?_set_ne hne]; exact r2, by rw [List.getElem?_set_ne hne]; exact r3, r4, r5⟩
  · obtain ⟨q1, q2, q3, q4, q5⟩ := h.vr r q hq
    have hs := whole_set (d := d) (v := x) (e := e) (x := nx φ y) x0 vo vn hxy q4 (hl r q1)
    refine ⟨q1, q2, by simpa using q3, ?_, fun u hu => ?_⟩
    · rw [hs, Un.Gr.stands_W]
      have hiff : nx φ (G.W r).2 = (x : Int) ↔ (G.W r).2 = some v := by
        rw [← nx_some hv]
        exact nx_eq h q5 (fun q e1 => by obtain rfl := Option.some.inj e1; exact ⟨x, hv⟩)
      by_cases e1 : (G.W r).2 = some v
      · rw [if_pos (hiff.2 e1), if_pos e1]
      · rw [if_neg (fun e2 => e1 (hiff.1 e2)), if_neg e1]
    · rw [Un.Gr.stands_W] at hu
      by_cases e1 : (G.W r).2 = some v
      · rw [if_pos e1] at hu
        exact (hy u hu).2.2
      · rw [if_neg e1] at hu
        exact q5 u hu
  · rw [Un.Gr.stands_W] at hu
    by_cases e1 : (G.W u).2 = some v
    · rw [if_pos e1] at hu
      have hu2 : y = some u := (Prod.mk.inj hu).2
      obtain ⟨q1, q2, _⟩ := hy u hu2
      rw [q2] at e1
      exact absurd (Option.some.inj e1) q1
    · rw [if_neg e1] at hu
      obtain ⟨z1, z2⟩ := h.vt u q hq hu
      have hne : x ≠ q := fun e2 => e1 (by rw [hu]; exact congrArg some (h.inj u v x (e2 ▸ hq) hv))
      exact ⟨by rw [List.getElem?_set_ne hne]; exact z1, by rw [List.getElem?_set_ne hne]; exact z2⟩
  · rw [Un.Gr.stands_W]
    have hr' : r < G.m := hr
    have hz := h.un r hr' hn
    rw [if_neg]
    · exact hz
    · intro e1
      rw [hz] at e1
      have : r = v := Option.some.inj e1
      rw [this, hv] at hn
      cases hn
theorem Sim.opened {d : D} {G : Gr} {φ : Nat → Option Nat} {K : Nat} (h : Sim d G φ K) (hG : G.OK) (hK : 1 ≤ K) (hm : φ G.m = none) : Sim (d.putRow [] (-1)) G.opened (ext φ G.m d.ops.length) K := by
  have hW : ∀ r, r < G.m → G.opened.W r = G.W r := fun r hr => Un.Gr.opened_old hr
  have h0 : Sim d G.opened φ K := by
    refine { h with vr := fun r x hx => ?_, vt := fun v x hv hw => ?_, un := fun r hr hn => ?_ }
    · obtain ⟨q1, q2, q3, q4, q5⟩ := h.vr r x hx
      rw [hW r q1]
      exact ⟨Nat.lt_succ_of_lt q1, q2, q3, q4, q5⟩
    · rw [hW v (h.vr v x hv).1] at hw
      exact h.vt v x hv hw
    · have hr' : r < G.m + 1 := hr
      by_cases e : r = G.m
      · subst e; exact Un.Gr.opened_new G
      · rw [hW r (by omega)]
        exact h.un r (by omega) hn
  exact h0.open hK hm (Nat.lt_succ_self _)
/-- What making the same costs: rows, and how far one has to go. -/
structure Cost (d : D) (G : Gr) (K A B : Nat) : Prop where
  ops : d.ops.length + G.roots ≤ A
  fu : K + 3 * G.roots ≤ B
theorem Cost.small {d : D} {G : Gr} {φ : Nat → Option Nat} {K A B : Nat} (c : Cost d G K A B) (h : Sim d G φ K) (hA : A < big) (hn : G.n < big) : d.small := by
  have h1 := c.ops
  refine ⟨?_, ?_, ?_, ?_, ?_, ?_, ?_⟩
  · rw [h.lk]; omega
  · rw [h.la]; omega
  · rw [h.lb]; omega
  · rw [h.lr]; omega
  · rw [h.ll]; omega
  · omega
  · rw [h.lo]; omega
theorem Sim.none_m {d : D} {G : Gr} {φ : Nat → Option Nat} {K : Nat} (h : Sim d G φ K) : φ G.m = none := by
  cases hx : φ G.m with
  | none => rfl
  | some x => have := (h.vr _ x hx).1; omega
theorem stands_eq {d : D} {v : Nat} {o : List Nm} {x : Int} (h1 : v < d.ops.length) (h2 : v < d.next.length) : Dg.stands d (v : Int) o x = some { d with ops := d.ops.set v o, next := d.next.set v x } := by
  unfold Dg.stands
  rw [if_pos ⟨by omega, by omega, by omega⟩, Int.toNat_natCast]
/-- Rows are made the same alike. -/
theorem Sim.sameRow {d : D} {G : Gr} {φ : Nat → Option Nat} {K T f : Nat} (h : Sim d G φ K) (hG : G.OK) (hb : G.Bd T) (hT : 3 * T < big) (hK : 1 ≤ K) (hf : K + 1 ≤ f) (hs : d.small) {i j ρ σ : Nat} (hi : i < G.n) (hj : j < G.n) (hki : G.kind i = 6) (hkj : G.kind j = 6) (hρ : d.row[i]? = some (ρ : Int)) (hσ : d.row[j]? = some (σ : Int)) :
    match G.sameRow i j with
    | none => ∃ d', Dg.sameRow f d (ρ : Int) (σ : Int) = some (false, d')
    | some H => ∃ d' φ', Dg.sameRow f d (ρ : Int) (σ : Int) = some (true, d') ∧ Sim d' H φ' (K + 2) ∧ d'.ops.length ≤ d.ops.length + 1 ∧ ∀ r, r < G.m → φ' r = φ r := by
  obtain ⟨ρ', e1, w1, x1⟩ := h.whole hG hb (by omega) hi hki
  obtain ⟨σ', e2, w2, x2⟩ := h.whole hG hb (by omega) hj hkj
  have : ρ' = ρ := by rw [hρ] at e1; have := Option.some.inj e1; omega
  subst this
  have : σ' = σ := by rw [hσ] at e2; have := Option.some.inj e2; omega
  subst this
  have l1 := Un.Gr.Bd.whole hb hi
  have l2 := Un.Gr.Bd.whole hb hj
  have lW := fun r (hr : r < G.m) => Un.Gr.Bd.W hb hr
  have ld := Un.Gr.less_len (G.whole i).1 (G.whole j).1
  have le := Un.Gr.less_len (G.whole j).1 (G.whole i).1
  unfold Dg.sameRow
  rw [whole_le w1 hf, whole_le w2 hf]
  simp only [Option.bind_some]
  rw [if_pos ⟨by omega, by omega⟩]
  have hnx := nx_eq h x1 x2
  unfold Un.Gr.sameRow
  simp only
  by_cases e : (G.whole i).2 = (G.whole j).2
  · rw [if_pos (hnx.2 e), if_pos e]
    by_cases e3 : less (G.whole i).1 (G.whole j).1 = [] ∧ less (G.whole j).1 (G.whole i).1 = []
    · rw [if_pos e3]
      refine ⟨d, φ, ?_, h.up (by omega), by omega, fun _ _ => rfl⟩
      rw [e3.1, e3.2]
      rfl
    · rw [if_neg e3]
      refine ⟨d, ?_⟩
      have : (decide ((less (G.whole i).1 (G.whole j).1).length = 0) && decide ((less (G.whole j).1 (G.whole i).1).length = 0)) = false := by
        simpa [List.length_eq_zero_iff] using e3
      rw [this]
  · rw [if_neg (fun e3 => e (hnx.1 e3)), if_neg e]
    cases hv : (G.whole i).2 with
    | none =>
      cases hw : (G.whole j).2 with
      | none => rw [hv, hw] at e; exact absurd rfl e
      | some w =>
        simp only
        rw [if_pos (show nx φ none = 0 from rfl)]
        obtain ⟨y, hy⟩ := x2 w hw
        obtain ⟨c1, c2⟩ := Un.Gr.whole_some hG hj hw
        by_cases e3 : less (G.whole j).1 (G.whole i).1 = []
        · rw [if_pos e3, e3, if_neg (by simp), nx_some hy, stands_eq (h.vr w y hy).2.2.1 (by rw [h.lo]; exact (h.vr w y hy).2.2.1)]
          exact ⟨_, φ, rfl, (h.stands (y := none) hy c2 (fun q hq => by cases hq) (fun r hr => by have := lW r hr; omega)).up (by omega), by simp, fun _ _ => rfl⟩
        · rw [if_neg e3, if_pos (by have : (less (G.whole j).1 (G.whole i).1).length ≠ 0 := fun e4 => e3 (List.length_eq_zero_iff.1 e4); omega)]
          exact ⟨d, rfl⟩
    | some v =>
      obtain ⟨x, hx⟩ := x1 v hv
      have v0 := (h.vr v x hx).2.1
      have vl := (h.vr v x hx).2.2.1
      obtain ⟨b1, b2⟩ := Un.Gr.whole_some hG hi hv
      have nv : nx φ (some v) ≠ 0 := by rw [nx_some hx]; omega
      cases hw : (G.whole j).2 with
      | none =>
        simp only
        rw [if_neg nv, if_pos (show nx φ none = 0 from rfl)]
        by_cases e3 : less (G.whole i).1 (G.whole j).1 = []
        · rw [if_pos e3, e3, if_neg (by simp), nx_some hx, stands_eq vl (by rw [h.lo]; exact vl)]
          exact ⟨_, φ, rfl, (h.stands (y := none) hx b2 (fun q hq => by cases hq) (fun r hr => by have := lW r hr; omega)).up (by omega), by simp, fun _ _ => rfl⟩
        · rw [if_neg e3, if_pos (by have : (less (G.whole i).1 (G.whole j).1).length ≠ 0 := fun e4 => e3 (List.length_eq_zero_iff.1 e4); omega)]
          exact ⟨d, rfl⟩
      | some w =>
        obtain ⟨y, hy⟩ := x2 w hw
        have yl := (h.vr w y hy).2.2.1
        obtain ⟨c1, c2⟩ := Un.Gr.whole_some hG hj hw
        have nw : nx φ (some w) ≠ 0 := by rw [nx_some hy]; have := (h.vr w y hy).2.1; omega
        have hvw : v ≠ w := fun e2 => e (by rw [hv, hw, e2])
        simp only
        rw [if_neg nv, if_neg nw, if_pos hs, nx_some hx, nx_some hy]
        have hm := h.none_m
        have h1 := h.opened hG hK hm
        have o1 := Un.Gr.opened_ok hG
        have n1 : v ≠ G.m := by omega
        have n2 : w ≠ G.m := by omega
        have hxo : ext φ G.m d.ops.length v = some x := by rw [ext_old n1]; exact hx
        have hyo : ext φ G.m d.ops.length w = some y := by rw [ext_old n2]; exact hy
        have hzo : ext φ G.m d.ops.length G.m = some d.ops.length := ext_new _ _ _
        have lO : ∀ r, r < G.opened.m → (G.opened.W r).1.length ≤ T := fun r hr => by
          have hr' : r < G.m + 1 := hr
          by_cases e0 : r = G.m
          · subst e0; rw [Un.Gr.opened_new]; exact Nat.zero_le _
          · rw [Un.Gr.opened_old (by omega)]; exact lW r (by omega)
        have s1 := h1.stands (e := less (G.whole j).1 (G.whole i).1) (y := some G.m) hxo (by rw [Un.Gr.opened_old b1]; exact b2) (fun q hq => by
          obtain rfl := Option.some.inj hq
          exact ⟨fun e3 => n1 e3.symm, Un.Gr.opened_new G, _, hzo⟩) (fun r hr => by have := lO r hr; omega)
        have hWw : (G.opened.stands v (less (G.whole j).1 (G.whole i).1) (some G.m)).W w = ([], some w) := by
          rw [Un.Gr.stands_W, Un.Gr.opened_old c1, c2, if_neg (fun e3 => hvw (Option.some.inj e3).symm)]
        have hWm : (G.opened.stands v (less (G.whole j).1 (G.whole i).1) (some G.m)).W G.m = ([], some G.m) := by
          rw [Un.Gr.stands_W, Un.Gr.opened_new, if_neg (fun e3 => n1 (Option.some.inj e3).symm)]
        have s2 := s1.stands (e := less (G.whole i).1 (G.whole j).1) (y := some G.m) hyo hWw (fun q hq => by
          obtain rfl := Option.some.inj hq
          exact ⟨fun e3 => n2 e3.symm, hWm, _, hzo⟩) (fun r hr => by
          rw [Un.Gr.stands_W]
          have h5 := lO r hr
          by_cases e3 : (G.opened.W r).2 = some v
          · rw [if_pos e3]
            simp only
            rw [joinB_length]
            omega
          · rw [if_neg e3]
            omega)
        rw [nx_some hzo] at s2
        rw [stands_eq (d := d.putRow [] (-1)) (by simp [D.putRow]; omega) (by simp [D.putRow, h.lo]; omega)]
        simp only [Option.bind_some]
        rw [stands_eq (by simp [D.putRow]; omega) (by simp [D.putRow, h.lo]; omega)]
        refine ⟨_, ext φ G.m d.ops.length, rfl, ?_, by simp [D.putRow], fun r hr => ext_old (by omega)⟩
        rw [nx_some hzo] at s1
        exact s2
end Dg
end Go.Proofs.YtficijneelpmcaaGreat

namespace Go.Proofs.YtficijneelpmcaaGreat
open Un (Srt joinB Nm Gr St put rvOf less)
namespace Dg

theorem sameRow_none {G : Gr} (hG : G.OK) {i j : Nat} (hi : i < G.n) (hj : j < G.n) (h1 : G.kind i ≠ 6) (h2 : G.kind j ≠ 6) : G.sameRow i j = some G := by
  obtain ⟨a1, a2⟩ := hG.row_none i hi h1
  obtain ⟨b1, b2⟩ := hG.row_none j hj h2
  have e1 : G.whole i = ([], none) := by unfold Un.Gr.whole; rw [a2, a1]
  have e2 : G.whole j = ([], none) := by unfold Un.Gr.whole; rw [b2, b1]
  unfold Un.Gr.sameRow
  rw [e1, e2]
  rfl
/-- What both come to. -/
def Res (m : Nat) (φ : Nat → Option Nat) (A B : Nat) (u : Option Gr) (s : Option (Bool × D)) : Prop :=
  (u = none → ∃ d', s = some (false, d')) ∧ ∀ H, u = some H → ∃ d' φ' K', s = some (true, d') ∧ Sim d' H φ' K' ∧ 1 ≤ K' ∧ Cost d' H K' A B ∧ ∀ r, r < m → φ' r = φ r
theorem Res.yes {m : Nat} {φ φ' : Nat → Option Nat} {A B K' : Nat} {H : Gr} {d' : D} (h : Sim d' H φ' K') (hK : 1 ≤ K') (c : Cost d' H K' A B) (hφ : ∀ r, r < m → φ' r = φ r) : Res m φ A B (some H) (some (true, d')) :=
  ⟨fun e => (by cases e), fun H' e => by obtain rfl := Option.some.inj e; exact ⟨d', φ', K', rfl, h, hK, c, hφ⟩⟩
theorem Res.no {m : Nat} {φ : Nat → Option Nat} {A B : Nat} {d' : D} : Res m φ A B none (some (false, d')) := ⟨fun _ => ⟨d', rfl⟩, fun H e => by cases e⟩
def SameSim (f T k : Nat) : Prop := ∀ (A B : Nat) (G : Gr) (d : D) (φ : Nat → Option Nat) (K a b : Nat), A < big → B + 3 ≤ f → G.n < big → G.OK → G.Bd T → Sim d G φ K → 1 ≤ K → Cost d G K A B → a < G.n → b < G.n → G.roots < k →
  Res G.m φ A B (Un.Gr.uni k G a b) (same f k d (a : Int) (b : Int))
theorem link_cost {d : D} {G : Gr} {K A B a b : Nat} (c : Cost d G K A B) (ha : a < G.n) (hra : G.rep a = a) (hrb : G.rep b = b) (hab : a ≠ b) : Cost (d.lnk a (b : Int)) (G.link a b) (K + 1) (A - 1) (B - 2) ∧ 1 ≤ A ∧ 2 ≤ B := by
  have h1 := Un.Gr.link_roots ha hra hrb hab
  have h2 := c.ops
  have h3 := c.fu
  exact ⟨⟨by show d.ops.length + _ ≤ _; omega, by omega⟩, by omega, by omega⟩
theorem Cost.le {d : D} {G : Gr} {K A B A' B' : Nat} (c : Cost d G K A B) (ha : A ≤ A') (hb : B ≤ B') : Cost d G K A' B' := ⟨by have := c.ops; omega, by have := c.fu; omega⟩
theorem same_step {f T k : Nat} (hT : 3 * T < big) (ih : SameSim f T k) : SameSim f T (k + 1) := by
  intro A B G d φ K a b hA hB hn hG hBd h hK c ha hb hr
  have hra := hG.rep_rep a ha
  have hrb := hG.rep_rep b hb
  have hla := hG.rep_lt a ha
  have hlb := hG.rep_lt b hb
  have hfu := c.fu
  have fa := find_le (h.fd a ha) (show K ≤ f by omega)
  have fb := find_le (h.fd b hb) (show K ≤ f by omega)
  unfold Un.Gr.uni same
  rw [fa, fb]
  simp only [Option.bind_some]
  by_cases e0 : G.rep a = G.rep b
  · rw [if_pos e0, if_pos (show (G.rep a : Int) = (G.rep b : Int) by rw [e0])]
    exact Res.yes h hK c (fun _ _ => rfl)
  rw [if_neg e0, if_neg (show ¬ (G.rep a : Int) = (G.rep b : Int) by omega), at_nat', h.kd _ hla]
  simp only [Option.bind_some]
  by_cases e1 : G.kind (G.rep a) = 0
  · rw [if_pos e1, if_pos (show (G.kind (G.rep a) : Int) = 0 by omega), Int.toNat_natCast]
    obtain ⟨c1, _, _⟩ := link_cost c hla hra hrb e0
    exact Res.yes (h.link hla hlb hra hrb e0) (by omega) (c1.le (by omega) (by omega)) (fun _ _ => rfl)
  rw [if_neg e1, if_neg (show ¬ (G.kind (G.rep a) : Int) = 0 by omega), at_nat', h.kd _ hlb]
  simp only [Option.bind_some]
  by_cases e2 : G.kind (G.rep b) = 0
  · rw [if_pos e2, if_pos (show (G.kind (G.rep b) : Int) = 0 by omega), Int.toNat_natCast]
    obtain ⟨c1, _, _⟩ := link_cost c hlb hrb hra (fun e => e0 e.symm)
    exact Res.yes (h.link hlb hla hrb hra (fun e => e0 e.symm)) (by omega) (c1.le (by omega) (by omega)) (fun _ _ => rfl)
  rw [if_neg e2, if_neg (show ¬ (G.kind (G.rep b) : Int) = 0 by omega)]
  by_cases e3 : G.kind (G.rep a) = G.kind (G.rep b)
  case neg =>
    rw [if_pos e3, if_pos (show (G.kind (G.rep a) : Int) ≠ (G.kind (G.rep b) : Int) by omega)]
    exact Res.no
  rw [if_neg (show ¬ G.kind (G.rep a) ≠ G.kind (G.rep b) by simpa using e3), if_neg (show ¬ (G.kind (G.rep a) : Int) ≠ (G.kind (G.rep b) : Int) by omega)]
  have hS := h.link hla hlb hra hrb e0
  obtain ⟨c1, A1, B2⟩ := link_cost c hla hra hrb e0
  have l1 := Un.Gr.link_ok hG hlb hra hrb e0 (.inr e3)
  have l2 := Un.Gr.link_bd (a := G.rep a) (b := G.rep b) hBd
  have l3 := Un.Gr.link_roots hla hra hrb e0
  have ka := hG.kids_len _ hla
  have kb := hG.kids_len _ hlb
  rw [← e3, ← ka] at kb
  have kla := hG.kids_lt _ hla
  have klb := hG.kids_lt _ hlb
  have hle2 : (G.kids (G.rep a)).length ≤ 2 := by rw [ka]; unfold Un.Gr.arity; split <;> (try split) <;> omega
  rw [at_nat', at_nat', at_nat', at_nat', at_nat', at_nat', h.ka _ hla, h.ka _ hlb, h.kb _ hla, h.kb _ hlb, Int.toNat_natCast]
  simp only [Option.bind_some]
  obtain ⟨ρ, hρ⟩ : ∃ ρ, d.row[G.rep a]? = some ρ := ⟨d.row[G.rep a]'(by rw [h.lr]; exact hla), by simp⟩
  obtain ⟨σ, hσ⟩ : ∃ σ, d.row[G.rep b]? = some σ := ⟨d.row[G.rep b]'(by rw [h.lr]; exact hlb), by simp⟩
  rw [hρ, hσ]
  simp only [Option.bind_some]
  generalize hX : d.lnk (G.rep a) (G.rep b : Int) = X at *
  generalize hH : G.link (G.rep a) (G.rep b) = L at *
  have hLn : L.n = G.n := by rw [← hH]; rfl
  have hLm : L.m = G.m := by rw [← hH]; rfl
  have hLk : L.kind = G.kind := by rw [← hH]; rfl
  have hXr : X.row = d.row := by rw [← hX]; rfl
  have hLr : L.roots < k := by omega
  /- the end: rows -/
  have fin : ∀ (M : Gr) (Y : D) (φ' : Nat → Option Nat) (K' : Nat), M.OK → Un.Gr.Ext L M → M.Bd T → Sim Y M φ' K' → 1 ≤ K' → Cost Y M K' (A - 1) (B - 2) → Kept X Y → (∀ r, r < G.m → φ' r = φ r) →
      Res G.m φ A B (M.sameRow (G.rep a) (G.rep b)) (if (G.kind (G.rep a) : Int) = 6 then Dg.sameRow f Y ρ σ else some (true, Y)) := by
    intro M Y φ' K' m1 m2 m3 m4 m5 m6 m9 m10
    have mk : M.kind = G.kind := m2.kind.trans hLk
    have mn : M.n = G.n := m2.n.trans hLn
    have mo := m6.ops
    have mf := m6.fu
    by_cases e6 : G.kind (G.rep a) = 6
    · rw [if_pos (by omega)]
      have hk1 : M.kind (G.rep a) = 6 := by rw [mk]; exact e6
      have hk2 : M.kind (G.rep b) = 6 := by rw [mk, ← e3]; exact e6
      obtain ⟨p, hp, _⟩ := m4.whole m1 m3 (by omega) (by rw [mn]; exact hla) hk1
      obtain ⟨q, hq, _⟩ := m4.whole m1 m3 (by omega) (by rw [mn]; exact hlb) hk2
      have hYr : Y.row = d.row := m9.row.trans hXr
      have ep : ρ = (p : Int) := by rw [hYr, hρ] at hp; exact Option.some.inj hp
      have eq : σ = (q : Int) := by rw [hYr, hσ] at hq; exact Option.some.inj hq
      subst ep eq
      have hs := m4.sameRow (f := f) m1 m3 hT m5 (by omega) (m6.small m4 (by omega) (by rw [mn]; exact hn)) (by rw [mn]; exact hla) (by rw [mn]; exact hlb) hk1 hk2 hp hq
      cases hx : M.sameRow (G.rep a) (G.rep b) with
      | none =>
        rw [hx] at hs
        obtain ⟨d', s1⟩ := hs
        rw [s1]
        exact Res.no
      | some H =>
        rw [hx] at hs
        obtain ⟨d', φ2, s1, s2, s3, s4⟩ := hs
        obtain ⟨g1, g2⟩ := Un.Gr.sameRow_ok m1 (by rw [mn]; exact hla) (by rw [mn]; exact hlb) hx
        have hro := g2.roots
        rw [s1]
        refine Res.yes s2 (by omega) ⟨by omega, by omega⟩ (fun r hr => ?_)
        rw [s4 r (Nat.lt_of_lt_of_le (by rw [hLm]; exact hr) m2.m), m10 r hr]
    · rw [if_neg (by omega)]
      rw [sameRow_none m1 (by rw [mn]; exact hla) (by rw [mn]; exact hlb) (by rw [mk]; exact e6) (by rw [mk, ← e3]; exact e6)]
      exact Res.yes m4 m5 (m6.le (by omega) (by omega)) m10
  /- one kid -/
  have sub : ∀ (M : Gr) (Y : D) (φ' : Nat → Option Nat) (K' x y : Nat), M.OK → Un.Gr.Ext L M → M.Bd T → Sim Y M φ' K' → 1 ≤ K' → Cost Y M K' (A - 1) (B - 2) → Kept X Y → (∀ r, r < G.m → φ' r = φ r) → x < G.n → y < G.n →
      (Un.Gr.uni k M x y = none → ∃ d', same f k Y (x : Int) (y : Int) = some (false, d')) ∧
      ∀ H, Un.Gr.uni k M x y = some H → ∃ d' φ2 K2, same f k Y (x : Int) (y : Int) = some (true, d') ∧ H.OK ∧ Un.Gr.Ext L H ∧ H.Bd T ∧ Sim d' H φ2 K2 ∧ 1 ≤ K2 ∧ Cost d' H K2 (A - 1) (B - 2) ∧ Kept X d' ∧ ∀ r, r < G.m → φ2 r = φ r := by
    intro M Y φ' K' x y m1 m2 m3 m4 m5 m6 m9 m10 hx hy
    have mn : M.n = G.n := m2.n.trans hLn
    have mr := m2.roots
    obtain ⟨r1, r2⟩ := ih (A - 1) (B - 2) M Y φ' K' x y (by omega) (by omega) (by rw [mn]; exact hn) m1 m3 m4 m5 m6 (by rw [mn]; exact hx) (by rw [mn]; exact hy) (by omega)
    refine ⟨r1, fun H hH => ?_⟩
    obtain ⟨d', φ2, K2, s1, s2, s3, s4, s5⟩ := r2 H hH
    obtain ⟨g1, g2⟩ := Un.Gr.uni_ok k M x y H m1 (by rw [mn]; exact hx) (by rw [mn]; exact hy) hH
    exact ⟨d', φ2, K2, s1, g1, m2.trans l1 g2, Un.Gr.uni_bd k M x y H m1 m3 (by rw [mn]; exact hx) (by rw [mn]; exact hy) hH, s2, s3, s4, m9.trans (same_kept s1), fun r hr => by rw [s5 r (Nat.lt_of_lt_of_le (by rw [hLm]; exact hr) m2.m), m10 r hr]⟩
  have ext0 := Un.Gr.Ext.refl l1
  match hka : G.kids (G.rep a), hkb : G.kids (G.rep b) with
  | [], [] =>
    have e4 : ¬ (0 ≤ kid [] 0) := by decide
    have e5 : ¬ (0 ≤ kid [] 1) := by decide
    rw [if_neg e4]
    simp only [Option.bind_some]
    rw [if_neg (by simp), if_neg e5]
    simp only [Option.bind_some]
    rw [if_neg (by simp)]
    exact fin L X φ (K + 1) l1 ext0 l2 hS (by omega) c1 (Kept.refl X) (fun _ _ => rfl)
  | [x], [y] =>
    have hx := kla x (by rw [hka]; simp)
    have hy := klb y (by rw [hkb]; simp)
    obtain ⟨r1, r2⟩ := sub L X φ (K + 1) x y l1 ext0 l2 hS (by omega) c1 (Kept.refl X) (fun _ _ => rfl) hx hy
    rw [(kid_one x).1, (kid_one y).1, (kid_one x).2, if_pos (show (0 : Int) ≤ (x : Int) by omega)]
    show Res G.m φ A B (((Un.Gr.uni k L x y).bind (Un.Gr.each (Un.Gr.uni k) [] [])).bind _) _
    cases hu : Un.Gr.uni k L x y with
    | none =>
      obtain ⟨d', s1⟩ := r1 hu
      rw [s1]
      exact Res.no
    | some H =>
      obtain ⟨d', φ2, K2, s1, s2, s3, s4, s5, s6, s7, s8, s9⟩ := r2 H hu
      rw [s1]
      simp only [Option.bind_some]
      rw [if_neg (by simp), if_neg (by decide)]
      simp only [Option.bind_some]
      rw [if_neg (by simp)]
      exact fin H d' φ2 K2 s2 s3 s4 s5 s6 s7 s8 s9
  | [x, x'], [y, y'] =>
    have hx := kla x (by rw [hka]; simp)
    have hy := klb y (by rw [hkb]; simp)
    have hx' := kla x' (by rw [hka]; simp)
    have hy' := klb y' (by rw [hkb]; simp)
    obtain ⟨r1, r2⟩ := sub L X φ (K + 1) x y l1 ext0 l2 hS (by omega) c1 (Kept.refl X) (fun _ _ => rfl) hx hy
    rw [(kid_two x x').1, (kid_two y y').1, (kid_two x x').2, (kid_two y y').2, if_pos (show (0 : Int) ≤ (x : Int) by omega)]
    show Res G.m φ A B (((Un.Gr.uni k L x y).bind (fun H => (Un.Gr.uni k H x' y').bind (Un.Gr.each (Un.Gr.uni k) [] []))).bind _) _
    cases hu : Un.Gr.uni k L x y with
    | none =>
      obtain ⟨d', s1⟩ := r1 hu
      rw [s1]
      exact Res.no
    | some H =>
      obtain ⟨d', φ2, K2, s1, s2, s3, s4, s5, s6, s7, s8, s9⟩ := r2 H hu
      obtain ⟨q1, q2⟩ := sub H d' φ2 K2 x' y' s2 s3 s4 s5 s6 s7 s8 s9 hx' hy'
      rw [s1]
      simp only [Option.bind_some]
      rw [if_neg (by simp), if_pos (show (0 : Int) ≤ (x' : Int) by omega)]
      cases hu2 : Un.Gr.uni k H x' y' with
      | none =>
        obtain ⟨d2, t1⟩ := q1 hu2
        rw [t1]
        exact Res.no
      | some H2 =>
        obtain ⟨d2, φ3, K3, t1, t2, t3, t4, t5, t6, t7, t8, t9⟩ := q2 H2 hu2
        rw [t1]
        simp only [Option.bind_some]
        rw [if_neg (by simp)]
        exact fin H2 d2 φ3 K3 t2 t3 t4 t5 t6 t7 t8 t9
  | [], _ :: _ => rw [hka, hkb] at kb; simp at kb
  | _ :: _, [] => rw [hka, hkb] at kb; simp at kb
  | [_], _ :: _ :: _ => rw [hka, hkb] at kb; simp at kb
  | _ :: _ :: _, [_] => rw [hka, hkb] at kb; simp at kb
  | _ :: _ :: _ :: _, _ => rw [hka] at hle2; simp at hle2
  | _, _ :: _ :: _ :: _ => rw [hkb, hka] at kb; rw [hka] at hle2; simp at kb hle2; (try omega)
theorem same_sim {f T : Nat} (hT : 3 * T < big) : ∀ k, SameSim f T k
  | 0 => fun _ _ _ _ _ _ _ _ _ _ _ _ _ _ _ _ _ _ h => absurd h (Nat.not_lt_zero _)
  | k + 1 => same_step hT (same_sim hT k)
end Dg
end Go.Proofs.YtficijneelpmcaaGreat

namespace Go.Proofs.YtficijneelpmcaaGreat
open Un (Srt joinB Nm Gr St put rvOf less)
namespace Dg

def Mk (s : List (Int × Int)) (i : Nat) : Int := (s.lookup (i : Int)).getD 0
theorem Mk_put (s : List (Int × Int)) (a i : Nat) (v : Int) : Mk (mput (a : Int) v s) i = if i = a then v else Mk s i := by
  unfold Mk
  rw [mput_look]
  by_cases e : i = a
  · rw [if_pos (by omega), if_pos e]; rfl
  · rw [if_neg (by omega), if_neg e]
/-- How many are not marked. -/
def unm (G : Gr) (s : List (Int × Int)) : Nat := ((List.range G.n).filter fun i => G.rep i == i && Mk s i == 0).length
structure MI2 (G : Gr) (s : List (Int × Int)) : Prop where
  rng : ∀ i, Mk s i = 0 ∨ Mk s i = 1 ∨ Mk s i = 2
  blk : ∀ i, i < G.n → Mk s i = 2 → G.Ends i
def Grey (G : Gr) (s : List (Int × Int)) (n : Nat) : Prop := ∀ i, i < G.n → G.rep i = i → Mk s i = 1 → ∃ j ∈ G.kids i, G.Rch j n
def Onl (G : Gr) (s : List (Int × Int)) : Prop := ∀ i, Mk s i ≠ 0 → G.rep i = i
structure RP (G : Gr) (s s' : List (Int × Int)) : Prop where
  mi : MI2 G s'
  on : Onl G s'
  gr : ∀ i, Mk s' i = 1 ↔ Mk s i = 1
  un : unm G s' ≤ unm G s
theorem RP.refl {G : Gr} {s : List (Int × Int)} (h : MI2 G s) (o : Onl G s) : RP G s s := ⟨h, o, fun _ => Iff.rfl, Nat.le_refl _⟩
theorem unm_put {G : Gr} {s : List (Int × Int)} {m : Nat} {v : Int} (hm : m < G.n) (hr : G.rep m = m) (h0 : Mk s m = 0) (hv : v ≠ 0) : unm G (mput (m : Int) v s) < unm G s := by
  unfold unm
  refine Un.Gr.filter_lt (a := m) _ (fun i _ hi => ?_) (by simpa using hm) (by simp [hr, h0]) ?_
  · simp only [Bool.and_eq_true, beq_iff_eq] at hi ⊢
    refine ⟨hi.1, ?_⟩
    have h2 := hi.2
    rw [Mk_put] at h2
    split at h2
    · exact absurd h2 hv
    · exact h2
  · simp only [Bool.and_eq_false_iff, beq_eq_false_iff_ne]
    refine .inr ?_
    rw [Mk_put, if_pos rfl]
    exact hv
theorem unm_le {G : Gr} {s s' : List (Int × Int)} (h : ∀ i, Mk s i ≠ 0 → Mk s' i ≠ 0) : unm G s' ≤ unm G s := by
  unfold unm
  have : ∀ (l : List Nat), (l.filter fun i => G.rep i == i && Mk s' i == 0).length ≤ (l.filter fun i => G.rep i == i && Mk s i == 0).length := by
    intro l
    induction l with
    | nil => simp
    | cons x l ih =>
      rw [List.filter_cons, List.filter_cons]
      by_cases h1 : (G.rep x == x && Mk s' x == 0) = true
      · have h2 : (G.rep x == x && Mk s x == 0) = true := by
          simp only [Bool.and_eq_true, beq_iff_eq] at h1 ⊢
          refine ⟨h1.1, ?_⟩
          rcases Decidable.em (Mk s x = 0) with h3 | h3
          · exact h3
          · exact absurd h1.2 (h x h3)
        rw [if_pos h1, if_pos h2]
        simpa using ih
      · rw [if_neg h1]
        split
        · simp; omega
        · exact ih
  exact this _
theorem round_sim {d : D} {G : Gr} {φ : Nat → Option Nat} {K f : Nat} (h : Sim d G φ K) (hG : G.OK) (hf : K ≤ f) : ∀ (k n : Nat) (s : List (Int × Int)), n < G.n → MI2 G s → Onl G s → Grey G s n → unm G s < k →
    ∃ r s', round f k d (n : Int) s = some (r, s') ∧ (r = true → ¬ G.Ends n) ∧ (r = false → G.Ends n ∧ RP G s s') := by
  intro k
  induction k with
  | zero => intro n s _ _ _ _ hk; exact absurd hk (Nat.not_lt_zero _)
  | succ k ih =>
    intro n s hn hM hO hg hk
    have hr := hG.rep_rep n hn
    have hl := hG.rep_lt n hn
    unfold round
    rw [find_le (h.fd n hn) hf]
    simp only [Option.bind_some]
    show ∃ r s', (if 0 < Mk s (G.rep n) then some (decide (Mk s (G.rep n) = 1), s) else _) = some (r, s') ∧ _
    rcases hM.rng (G.rep n) with h0 | h1 | h2
    · rw [if_neg (by omega), at_nat', at_nat', h.ka _ hl, h.kb _ hl]
      simp only [Option.bind_some]
      have kla := hG.kids_lt _ hl
      have hle2 : (G.kids (G.rep n)).length ≤ 2 := by rw [hG.kids_len _ hl]; unfold Un.Gr.arity; split <;> (try split) <;> omega
      have m1 : MI2 G (mput (G.rep n : Int) 1 s) := ⟨fun i => by
        rw [Mk_put]
        split
        · exact .inr (.inl rfl)
        · exact hM.rng i, fun i hi hb => by
        rw [Mk_put] at hb
        split at hb
        · omega
        · exact hM.blk i hi hb⟩
      have o1 : Onl G (mput (G.rep n : Int) 1 s) := fun i hi => by
        rw [Mk_put] at hi
        split at hi
        · rename_i e; rw [e]; exact hr
        · exact hO i hi
      have u1 := unm_put (v := 1) hl hr h0 (by decide)
      /- one kid -/
      have sub : ∀ (x : Nat) (s1 : List (Int × Int)), x ∈ G.kids (G.rep n) → RP G (mput (G.rep n : Int) 1 s) s1 → ∃ r s', round f k d (x : Int) s1 = some (r, s') ∧ (r = true → ¬ G.Ends n) ∧ (r = false → G.Ends x ∧ RP G (mput (G.rep n : Int) 1 s) s') := by
        intro x s1 hx hp
        have hu1 := hp.un
        obtain ⟨r, s', e1, e2, e3⟩ := ih x s1 (kla x hx) hp.mi hp.on (fun i hi hri h1 => by
          have h2 := (hp.gr i).1 h1
          rw [Mk_put] at h2
          by_cases e : i = G.rep n
          · subst e
            exact ⟨x, hx, .here rfl⟩
          · rw [if_neg e] at h2
            obtain ⟨j, j1, j2⟩ := hg i hi hri h2
            exact ⟨j, j1, Un.Gr.Rch.trans hG j2 (.kid hx (.here rfl))⟩) (by omega)
        refine ⟨r, s', e1, fun hr1 he => e2 hr1 ((Un.Gr.ends_iff n).1 he x hx), fun hr1 => ?_⟩
        obtain ⟨a1, a2⟩ := e3 hr1
        exact ⟨a1, a2.mi, a2.on, fun i => (a2.gr i).trans (hp.gr i), Nat.le_trans a2.un hp.un⟩
      /- all kids end -/
      have fin : ∀ s1, RP G (mput (G.rep n : Int) 1 s) s1 → (∀ x ∈ G.kids (G.rep n), G.Ends x) → ∃ r s', (some (false, mput (G.rep n : Int) 2 s1) : Option (Bool × List (Int × Int))) = some (r, s') ∧ (r = true → ¬ G.Ends n) ∧ (r = false → G.Ends n ∧ RP G s s') := by
        intro s1 hp he
        have hE : G.Ends n := (Un.Gr.ends_iff n).2 he
        refine ⟨false, _, rfl, fun e => (by cases e), fun _ => ⟨hE, ⟨⟨fun i => ?_, fun i hi hb => ?_⟩, fun i hi => ?_, fun i => ?_, ?_⟩⟩⟩
        · rw [Mk_put]
          split
          · exact .inr (.inr rfl)
          · exact hp.mi.rng i
        · rw [Mk_put] at hb
          split at hb
          · rename_i e
            subst e
            exact Un.Gr.Ends.of_rep hG hr.symm hE
          · exact hp.mi.blk i hi hb
        · rw [Mk_put] at hi
          split at hi
          · rename_i e; rw [e]; exact hr
          · exact hp.on i hi
        · rw [Mk_put]
          have h3 := hp.gr i
          rw [Mk_put] at h3
          by_cases e : i = G.rep n
          · rw [if_pos e]
            rw [e, h0]
            decide
          · rw [if_neg e]
            rw [if_neg e] at h3
            exact h3
        · refine Nat.le_trans (unm_le (s := s1) (fun i hi => ?_)) (Nat.le_trans hp.un (Nat.le_of_lt u1))
          rw [Mk_put]
          split
          · decide
          · exact hi
      have rp0 := RP.refl m1 o1
      match hk2 : G.kids (G.rep n) with
      | [] =>
        rw [if_neg (show ¬ (0 ≤ kid [] 0) by decide)]
        simp only [Option.bind_some]
        rw [if_neg (by simp), if_neg (show ¬ (0 ≤ kid [] 1) by decide)]
        simp only [Option.bind_some]
        rw [if_neg (by simp)]
        exact fin _ rp0 (by rw [hk2]; simp)
      | [x] =>
        rw [(kid_one x).1, (kid_one x).2, if_pos (show (0 : Int) ≤ (x : Int) by omega)]
        obtain ⟨r, s1, e1, e2, e3⟩ := sub x _ (by rw [hk2]; simp) rp0
        rw [e1]
        simp only [Option.bind_some]
        cases r with
        | true => exact ⟨true, s1, rfl, e2, fun e => by cases e⟩
        | false =>
          obtain ⟨a1, a2⟩ := e3 rfl
          rw [if_neg (by simp), if_neg (by decide)]
          simp only [Option.bind_some]
          rw [if_neg (by simp)]
          exact fin s1 a2 (by rw [hk2]; simpa using a1)
      | [x, y] =>
        rw [(kid_two x y).1, (kid_two x y).2, if_pos (show (0 : Int) ≤ (x : Int) by omega)]
        obtain ⟨r, s1, e1, e2, e3⟩ := sub x _ (by rw [hk2]; simp) rp0
        rw [e1]
        simp only [Option.bind_some]
        cases r with
        | true => exact ⟨true, s1, rfl, e2, fun e => by cases e⟩
        | false =>
          obtain ⟨a1, a2⟩ := e3 rfl
          rw [if_neg (by simp), if_pos (show (0 : Int) ≤ (y : Int) by omega)]
          obtain ⟨r', s2, e1', e2', e3'⟩ := sub y s1 (by rw [hk2]; simp) a2
          rw [e1']
          simp only [Option.bind_some]
          cases r' with
          | true => exact ⟨true, s2, rfl, e2', fun e => by cases e⟩
          | false =>
            obtain ⟨b1, b2⟩ := e3' rfl
            rw [if_neg (by simp)]
            exact fin s2 b2 (by rw [hk2]; intro z hz; simp at hz; rcases hz with rfl | rfl; exact a1; exact b1)
      | _ :: _ :: _ :: _ => rw [hk2] at hle2; simp at hle2
    · rw [if_pos (by omega), h1]
      refine ⟨true, s, rfl, fun _ he => ?_, fun e => by cases e⟩
      obtain ⟨j, j1, j2⟩ := hg _ hl hr h1
      have h3 : G.Rch j (G.rep n) := Un.Gr.Rch.trans hG j2 (.here hr.symm)
      exact Un.Gr.round_no hG (a := G.rep n) (by rw [hr]; exact j1) h3 (Un.Gr.Ends.of_rep hG hr.symm he)
    · rw [if_pos (by omega), h2]
      exact ⟨false, s, rfl, fun e => (by cases e), fun _ => ⟨Un.Gr.Ends.of_rep hG hr (hM.blk _ hl h2), RP.refl hM hO⟩⟩
theorem mi_nil (G : Gr) : MI2 G [] := ⟨fun _ => .inl rfl, fun i _ h => by cases h⟩
theorem unm_n (G : Gr) (s : List (Int × Int)) : unm G s ≤ G.n := by
  unfold unm
  exact Nat.le_trans (List.length_filter_le _ _) (by simp)
theorem round_top {d : D} {G : Gr} {φ : Nat → Option Nat} {K f k n : Nat} (h : Sim d G φ K) (hG : G.OK) (hf : K ≤ f) (hk : G.n < k) (hn : n < G.n) : ∃ r s', round f k d (n : Int) [] = some (r, s') ∧ (r = false ↔ G.Ends n) := by
  obtain ⟨r, s', h1, h2, h3⟩ := round_sim h hG hf k n [] hn (mi_nil G) (fun i hi => absurd rfl hi) (fun i _ _ hi => by cases hi) (Nat.lt_of_le_of_lt (unm_n G []) hk)
  refine ⟨r, s', h1, fun e => (h3 e).1, fun e => ?_⟩
  cases r with
  | false => rfl
  | true => exact absurd e (h2 rfl)
theorem rounds_top {d : D} {G : Gr} {φ : Nat → Option Nat} {K f k : Nat} (h : Sim d G φ K) (hG : G.OK) (hf : K ≤ f) (hk : G.n < k) : ∀ (l : List Nat), (∀ n ∈ l, n < G.n) → ∃ b, rounds f k d (l.map fun n : Nat => (n : Int)) = some b ∧ (b = false ↔ ∀ n ∈ l, G.Ends n) := by
  intro l
  induction l with
  | nil => intro _; exact ⟨false, rfl, by simp⟩
  | cons n l ih =>
    intro hl
    obtain ⟨r, s', h1, h2⟩ := round_top h hG hf hk (hl n (by simp))
    obtain ⟨b, h3, h4⟩ := ih (fun x hx => hl x (by simp [hx]))
    show ∃ b, rounds f k d ((n : Int) :: l.map fun n : Nat => (n : Int)) = some b ∧ _
    unfold rounds
    rw [h1]
    simp only [Option.bind_some]
    cases r with
    | true =>
      refine ⟨true, rfl, fun e => (by cases e), fun e => ?_⟩
      have := h2.2 (e n (by simp))
      cases this
    | false =>
      rw [if_neg (by simp)]
      refine ⟨b, h3, fun e x hx => ?_, fun e => h4.2 (fun x hx => e x (by simp [hx]))⟩
      rcases List.mem_cons.1 hx with rfl | hx
      · exact h2.1 rfl
      · exact h4.1 e x hx

/- parts -/
def PM (G : Gr) (s : List (Int × Int)) : Prop := ∀ i, (Mk s i = 0) ∨ ∃ t, G.Parts i t ∧ Mk s i = min (t : Int) 1000000 ∧ 0 < t
theorem sz_pos {G : Gr} {k n t : Nat} (h : G.sz k n = some t) : 0 < t := by
  cases k with
  | zero => cases h
  | succ k =>
    unfold Un.Gr.sz at h
    obtain ⟨s, _, rfl⟩ := Option.map_eq_some_iff.1 h
    omega
theorem rowLen_sim {d : D} {G : Gr} {φ : Nat → Option Nat} {K f T i : Nat} (h : Sim d G φ K) (hG : G.OK) (hb : G.Bd T) (hT : T < big) (hf : K + 1 ≤ f) (hi : i < G.n) : rowLen f d (G.kind i : Int) (i : Int) = some ((G.whole i).1.length : Int) := by
  unfold rowLen
  by_cases e : G.kind i = 6
  · obtain ⟨ρ, h1, h2, _⟩ := h.whole hG hb hT hi e
    have := Un.Gr.Bd.whole hb hi
    rw [if_pos (by omega), at_nat', h1]
    simp only [Option.bind_some]
    rw [whole_le h2 hf]
    simp only [Option.bind_some]
    rw [if_pos (by omega)]
  · rw [if_neg (by omega)]
    obtain ⟨a1, a2⟩ := hG.row_none i hi e
    have e1 : G.whole i = ([], none) := by unfold Un.Gr.whole; rw [a2, a1]
    rw [e1]
    rfl
theorem parts_sim {d : D} {G : Gr} {φ : Nat → Option Nat} {K f T : Nat} (h : Sim d G φ K) (hG : G.OK) (hb : G.Bd T) (hT : T < big) (hf : K + 1 ≤ f) : ∀ (k n t : Nat) (s : List (Int × Int)), n < G.n → G.sz k n = some t → PM G s →
    ∃ s', parts f k d (n : Int) s = some (min (t : Int) 1000000, s') ∧ PM G s' := by
  intro k
  induction k with
  | zero => intro n t s _ hz; cases hz
  | succ k ih =>
    intro n t s hn hz hM
    have hr := hG.rep_rep n hn
    have hl := hG.rep_lt n hn
    have hP : G.Parts n t := ⟨_, hz⟩
    unfold parts
    rw [find_le (h.fd n hn) (by omega)]
    simp only [Option.bind_some]
    show ∃ s', (if 0 < Mk s (G.rep n) then some (Mk s (G.rep n), s) else _) = some (_, s') ∧ _
    have tp := sz_pos hz
    rcases hM (G.rep n) with h0 | ⟨t', p1, p2, p3⟩
    · rw [if_neg (by omega), at_nat', at_nat', at_nat', h.ka _ hl, h.kb _ hl, h.kd _ hl]
      simp only [Option.bind_some]
      have kla := hG.kids_lt _ hl
      have hle2 : (G.kids (G.rep n)).length ≤ 2 := by rw [hG.kids_len _ hl]; unfold Un.Gr.arity; split <;> (try split) <;> omega
      rw [Un.Gr.sz] at hz
      obtain ⟨sm, z1, rfl⟩ := Option.map_eq_some_iff.1 hz
      have fin : ∀ (p q : Int) (s1 : List (Int × Int)), PM G s1 → (∃ a b : Nat, p = min (a : Int) 1000000 ∧ q = min (b : Int) 1000000 ∧ a + b = sm) → ∃ s', ((rowLen f d (G.kind (G.rep n) : Int) (G.rep n : Int)).bind fun x => if fitP p ∧ fitP q then some (min (1 + p + q + x) 1000000, mput (G.rep n : Int) (min (1 + p + q + x) 1000000) s1) else none) = some (min ((1 + sm + (G.whole (G.rep n)).1.length : Nat) : Int) 1000000, s') ∧ PM G s' := by
        rintro p q s1 hs1 ⟨a, b, rfl, rfl, rfl⟩
        rw [rowLen_sim h hG hb hT hf hl]
        simp only [Option.bind_some]
        rw [if_pos ⟨⟨by omega, by omega⟩, ⟨by omega, by omega⟩⟩]
        have ev : min (1 + min (a : Int) 1000000 + min (b : Int) 1000000 + ((G.whole (G.rep n)).1.length : Int)) 1000000 = min ((1 + (a + b) + (G.whole (G.rep n)).1.length : Nat) : Int) 1000000 := by omega
        rw [ev]
        refine ⟨_, rfl, fun i => ?_⟩
        rw [Mk_put]
        by_cases e : i = G.rep n
        · subst e
          rw [if_pos rfl]
          obtain ⟨kk, hkk⟩ := hP
          exact .inr ⟨_, ⟨kk, by rw [Un.Gr.sz_rep hG hr]; exact hkk⟩, rfl, by omega⟩
        · rw [if_neg e]; exact hs1 i
      match hk2 : G.kids (G.rep n) with
      | [] =>
        rw [hk2] at z1
        obtain rfl : 0 = sm := Option.some.inj z1
        rw [if_neg (show ¬ (0 ≤ kid [] 0) by decide)]
        simp only [Option.bind_some]
        rw [if_neg (show ¬ (0 ≤ kid [] 1) by decide)]
        simp only [Option.bind_some]
        exact fin 0 0 s hM ⟨0, 0, by omega, by omega, rfl⟩
      | [x] =>
        rw [hk2] at z1
        unfold Un.Gr.sumO at z1
        obtain ⟨a, za, z2⟩ := Option.bind_eq_some_iff.1 z1
        obtain ⟨b, zb, rfl⟩ := Option.map_eq_some_iff.1 z2
        obtain rfl : 0 = b := Option.some.inj zb
        rw [(kid_one x).1, (kid_one x).2, if_pos (show (0 : Int) ≤ (x : Int) by omega)]
        obtain ⟨s1, e1, e2⟩ := ih x a s (kla x (by rw [hk2]; simp)) za hM
        rw [e1]
        simp only [Option.bind_some]
        rw [if_neg (by decide)]
        simp only [Option.bind_some]
        exact fin _ 0 s1 e2 ⟨a, 0, rfl, by omega, rfl⟩
      | [x, y] =>
        rw [hk2] at z1
        unfold Un.Gr.sumO at z1
        obtain ⟨a, za, z2⟩ := Option.bind_eq_some_iff.1 z1
        obtain ⟨b, zb, rfl⟩ := Option.map_eq_some_iff.1 z2
        unfold Un.Gr.sumO at zb
        obtain ⟨b1, zb1, z3⟩ := Option.bind_eq_some_iff.1 zb
        obtain ⟨b2, zb2, rfl⟩ := Option.map_eq_some_iff.1 z3
        obtain rfl : 0 = b2 := Option.some.inj zb2
        rw [(kid_two x y).1, (kid_two x y).2, if_pos (show (0 : Int) ≤ (x : Int) by omega)]
        obtain ⟨s1, e1, e2⟩ := ih x a s (kla x (by rw [hk2]; simp)) za hM
        rw [e1]
        simp only [Option.bind_some]
        rw [if_pos (show (0 : Int) ≤ (y : Int) by omega)]
        obtain ⟨s2, e3, e4⟩ := ih y b1 s1 (kla y (by rw [hk2]; simp)) zb1 e2
        rw [e3]
        simp only [Option.bind_some]
        exact fin _ _ s2 e4 ⟨a, b1, rfl, rfl, rfl⟩
      | _ :: _ :: _ :: _ => rw [hk2] at hle2; simp at hle2
    · rw [if_pos (by omega), p2]
      have : t' = t := by
        obtain ⟨kk, hkk⟩ := p1
        exact Un.Gr.Parts.one ⟨kk, hkk⟩ ⟨k + 1, by rw [Un.Gr.sz_rep hG hr]; exact hz⟩
      subst this
      exact ⟨s, rfl, hM⟩
end Dg
end Go.Proofs.YtficijneelpmcaaGreat

namespace Go.Proofs.YtficijneelpmcaaGreat
open Un (Srt joinB Nm Gr St put rvOf less)
namespace Dg

theorem nodup_sub : ∀ {l m : List Nat}, l.Nodup → (∀ x ∈ l, x ∈ m) → l.length ≤ m.length := by
  intro l
  induction l with
  | nil => intro m _ _; simp
  | cons a l ih =>
    intro m hn hs
    have hn' := List.nodup_cons.1 hn
    have ha := hs a (by simp)
    have h1 := ih (m := m.erase a) hn'.2 (fun x hx => (List.mem_erase_of_ne (fun (e : x = a) => hn'.1 (e ▸ hx))).2 (hs x (by simp [hx])))
    have h2 := List.length_erase_of_mem ha
    have h3 : 0 < m.length := List.length_pos_of_mem ha
    simp only [List.length_cons]
    omega
/-- The least depth. -/
theorem depth_path {G : Gr} (hG : G.OK) : ∀ (k n s : Nat), n < G.n → G.sz k n = some s → (∀ j, j < k → G.sz j n = none) → ∃ l : List Nat, l.length = k ∧ l.Nodup ∧ (∀ x ∈ l, x < G.n) ∧ ∀ x ∈ l, ∃ j, j ≤ k ∧ 0 < j ∧ (∃ t, G.sz j x = some t) ∧ ∀ i, i < j → G.sz i x = none := by
  intro k
  induction k with
  | zero => intro n s _ h; cases h
  | succ k ih =>
    intro n s hn hs hmin
    by_cases hk : k = 0
    · subst hk
      exact ⟨[n], rfl, by simp, by simpa using hn, fun x hx => by
        obtain rfl := List.mem_singleton.1 hx
        exact ⟨1, by omega, by omega, ⟨s, hs⟩, hmin⟩⟩
    have hl := hG.rep_lt n hn
    /- a kid of the full depth -/
    have ⟨x, hx, t, ht, hxm⟩ : ∃ x, x ∈ G.kids (G.rep n) ∧ ∃ t, G.sz k x = some t ∧ ∀ j, j < k → G.sz j x = none := by
      apply Classical.byContradiction
      intro hno
      have all : ∀ x ∈ G.kids (G.rep n), ∃ t, G.sz (k - 1) x = some t := by
        intro x hx
        have hsum : ∃ sm, Un.Gr.sumO (G.sz k) (G.kids (G.rep n)) = some sm := by
          rw [Un.Gr.sz] at hs
          obtain ⟨sm, z1, _⟩ := Option.map_eq_some_iff.1 hs
          exact ⟨sm, z1⟩
        obtain ⟨sm, z1⟩ := hsum
        obtain ⟨t, ht⟩ := Un.Gr.sumO_mem z1 x hx
        apply Classical.byContradiction
        intro hn2
        refine hno ⟨x, hx, t, ht, fun j hj => ?_⟩
        cases hz : G.sz j x with
        | none => rfl
        | some u => exact absurd ⟨u, Un.Gr.sz_le hz (by omega)⟩ hn2
      have hz : G.sz k n ≠ none := by
        obtain ⟨k', rfl⟩ : ∃ k', k = k' + 1 := ⟨k - 1, by omega⟩
        rw [Un.Gr.sz]
        have : ∀ l : List Nat, (∀ x ∈ l, ∃ t, G.sz k' x = some t) → ∃ sm, Un.Gr.sumO (G.sz k') l = some sm := by
          intro l
          induction l with
          | nil => intro _; exact ⟨0, rfl⟩
          | cons a l ihl =>
            intro h
            obtain ⟨t, ht⟩ := h a (by simp)
            obtain ⟨sm, hsm⟩ := ihl (fun x hx => h x (by simp [hx]))
            exact ⟨t + sm, by unfold Un.Gr.sumO; rw [ht, hsm]; rfl⟩
        obtain ⟨sm, hsm⟩ := this _ all
        rw [hsm]
        simp
      exact hz (hmin k (by omega))
    obtain ⟨l, l1, l2, l3, l4⟩ := ih x t (hG.kids_lt _ hl x hx) ht hxm
    refine ⟨n :: l, by simp [l1], List.nodup_cons.2 ⟨fun hm => ?_, l2⟩, fun y hy => ?_, fun y hy => ?_⟩
    · obtain ⟨j, j1, j2, ⟨u, j3⟩, _⟩ := l4 n hm
      rw [hmin j (by omega)] at j3
      cases j3
    · rcases List.mem_cons.1 hy with rfl | hy
      · exact hn
      · exact l3 y hy
    · rcases List.mem_cons.1 hy with rfl | hy
      · exact ⟨k + 1, Nat.le_refl _, by omega, ⟨s, hs⟩, hmin⟩
      · obtain ⟨j, j1, j2, j3, j4⟩ := l4 y hy
        exact ⟨j, by omega, j2, j3, j4⟩
theorem least {G : Gr} {n : Nat} : ∀ (k s : Nat), G.sz k n = some s → ∃ j, j ≤ k ∧ G.sz j n = some s ∧ ∀ i, i < j → G.sz i n = none := by
  intro k
  induction k with
  | zero => intro s h; cases h
  | succ k ih =>
    intro s h
    cases hz : G.sz k n with
    | none =>
      refine ⟨k + 1, Nat.le_refl _, h, fun i hi => ?_⟩
      cases hi2 : G.sz i n with
      | none => rfl
      | some u =>
        have := Un.Gr.sz_le hi2 (show i ≤ k by omega)
        rw [hz] at this
        cases this
    | some u =>
      have : u = s := by
        have := Un.Gr.sz_up hz
        rw [h] at this
        exact (Option.some.inj this).symm
      subst this
      obtain ⟨j, j1, j2, j3⟩ := ih u hz
      exact ⟨j, by omega, j2, j3⟩
theorem parts_depth {G : Gr} (hG : G.OK) {n s : Nat} (hn : n < G.n) (h : G.Parts n s) : G.sz G.n n = some s := by
  obtain ⟨k, hk⟩ := h
  obtain ⟨j, _, j2, j3⟩ := least k s hk
  obtain ⟨l, l1, l2, l3, _⟩ := depth_path hG j n s hn j2 j3
  have := nodup_sub (m := List.range G.n) l2 (fun x hx => by simpa using l3 x hx)
  rw [List.length_range, l1] at this
  exact Un.Gr.sz_le j2 this
theorem bigs_top {d : D} {G : Gr} {φ : Nat → Option Nat} {K f k T : Nat} (h : Sim d G φ K) (hG : G.OK) (hb : G.Bd T) (hT : T < big) (hf : K + 1 ≤ f) (hk : G.n ≤ k) : ∀ (l : List Nat), (∀ n ∈ l, n < G.n ∧ G.Ends n) → ∃ b, bigs f k d (l.map fun n : Nat => (n : Int)) = some b ∧ (b = false ↔ ∀ n ∈ l, ∃ s, G.Parts n s ∧ s ≤ 300) := by
  intro l
  induction l with
  | nil => intro _; exact ⟨false, rfl, by simp⟩
  | cons n l ih =>
    intro hl
    obtain ⟨hn, t, ht⟩ := hl n (by simp)
    obtain ⟨s', h1, _⟩ := parts_sim h hG hb hT hf k n t [] hn (Un.Gr.sz_le (parts_depth hG hn ht) hk) (fun i => .inl rfl)
    obtain ⟨b, h3, h4⟩ := ih (fun x hx => hl x (by simp [hx]))
    show ∃ b, bigs f k d ((n : Int) :: l.map fun n : Nat => (n : Int)) = some b ∧ _
    unfold bigs
    rw [h1]
    simp only [Option.bind_some]
    by_cases e : 300 < t
    · rw [if_pos (by omega)]
      refine ⟨true, rfl, fun e => (by cases e), fun e2 => ?_⟩
      obtain ⟨s, q1, q2⟩ := e2 n (by simp)
      have := ht.one q1
      omega
    · rw [if_neg (by omega)]
      refine ⟨b, h3, fun e2 x hx => ?_, fun e2 => h4.2 (fun x hx => e2 x (by simp [hx]))⟩
      rcases List.mem_cons.1 hx with rfl | hx
      · exact ⟨t, ht, by omega⟩
      · exact h4.1 e2 x hx

/- how types are told -/
def enc (g : Nat → Int) (l : List Nat) (o : Nat) : List (Int × Int) := match l with
  | [] => []
  | x :: l => (g x, (o : Int) + 1) :: enc g l (o + 1)
theorem enc_len (g : Nat → Int) : ∀ (l : List Nat) (o : Nat), (enc g l o).length = l.length := by
  intro l
  induction l with
  | nil => intro o; rfl
  | cons x l ih => intro o; simp [enc, ih]
theorem enc_snoc (g : Nat → Int) (x : Nat) : ∀ (l : List Nat) (o : Nat), enc g (l ++ [x]) o = enc g l o ++ [(g x, ((o + l.length : Nat) : Int) + 1)] := by
  intro l
  induction l with
  | nil => intro o; simp [enc]
  | cons y l ih => intro o; simp only [List.cons_append, enc, ih]; simp; omega
theorem enc_look (g : Nat → Int) {x : Nat} : ∀ (l : List Nat) (o : Nat), (∀ y ∈ l, g y = g x → y = x) → (enc g l o).lookup (g x) = if x ∈ l then some (((o + l.idxOf x : Nat) : Int) + 1) else none := by
  intro l
  induction l with
  | nil => intro o _; rfl
  | cons y l ih =>
    intro o hi
    unfold enc
    rw [List.lookup_cons]
    by_cases e : y = x
    · subst e
      simp [List.idxOf_cons]
    · have e1 : (g x == g y) = false := by
        have : g x ≠ g y := fun h => e (hi y (by simp) h.symm)
        simpa using this
      rw [e1]
      simp only
      rw [ih (o + 1) (fun z hz => hi z (by simp [hz]))]
      have e2 : (y == x) = false := by simpa using e
      by_cases hx : x ∈ l
      · rw [if_pos hx, if_pos (by simp [hx]), List.idxOf_cons, e2]
        simp only [cond_false]
        congr 1
        omega
      · rw [if_neg hx, if_neg (by simp only [List.mem_cons, not_or]; exact ⟨fun h => e h.symm, hx⟩)]
theorem number_enc (g : Nat → Int) {x : Nat} {l : List Nat} (hi : ∀ y ∈ l, g y = g x → y = x) : number (enc g l 0) (g x) = (((Un.Gr.numOf l x).1 : Int), enc g (Un.Gr.numOf l x).2 0) := by
  unfold number Un.Gr.numOf
  have hl := enc_look g l 0 hi
  by_cases hx : x ∈ l
  · rw [if_pos hx] at hl
    rw [if_pos hx, hl]
    simp
  · rw [if_neg hx] at hl
    rw [if_neg hx, hl]
    simp only
    rw [mput_new hl, enc_snoc, enc_len]
    simp
def toI (n : Nat) : Int := (n : Int)
def Gn (φ : Nat → Option Nat) (v : Nat) : Int := nx φ (some v)
structure NR (φ : Nat → Option Nat) (N : Un.Gr.Nms) (M : NM) : Prop where
  t : M.1 = enc toI N.t 0
  r : M.2 = enc (Gn φ) N.r 0
  d : ∀ v ∈ N.r, ∃ y, φ v = some y
def nsz (N : Un.Gr.Nms) : Nat := N.t.length + N.r.length
theorem numOf_len (l : List Nat) (x : Nat) : l.length ≤ (Un.Gr.numOf l x).2.length ∧ (Un.Gr.numOf l x).2.length ≤ l.length + 1 := by
  unfold Un.Gr.numOf
  split
  · exact ⟨Nat.le_refl _, Nat.le_succ _⟩
  · simp
theorem numOf_mem {l : List Nat} {x y : Nat} (h : y ∈ (Un.Gr.numOf l x).2) : y ∈ l ∨ y = x := by
  unfold Un.Gr.numOf at h
  split at h
  · exact .inl h
  · simpa using h
theorem told_sim {d : D} {G : Gr} {φ : Nat → Option Nat} {K f T : Nat} (h : Sim d G φ K) (hG : G.OK) (hb : G.Bd T) (hT : T < big) (hf : K + 1 ≤ f) : ∀ (k n s : Nat) (N : Un.Gr.Nms) (M : NM), n < G.n → G.sz k n = some s → NR φ N M → nsz N + s < big →
    ∃ t N' M', G.told k n N = some (t, N') ∧ told f k d (n : Int) M = some (t, M') ∧ NR φ N' M' ∧ nsz N' ≤ nsz N + s := by
  intro k
  induction k with
  | zero => intro n s N M _ hz; cases hz
  | succ k ih =>
    intro n s N M hn hz hN hsz
    have hl := hG.rep_lt n hn
    have hkl := hG.kids_len _ hl
    have kla := hG.kids_lt _ hl
    have hle := hG.kind_le _ hl
    rw [Un.Gr.sz] at hz
    obtain ⟨sm, z1, rfl⟩ := Option.map_eq_some_iff.1 hz
    rw [Un.Gr.told, told, find_le (h.fd n hn) (by omega)]
    simp only [Option.bind_some]
    rw [at_nat', h.kd _ hl]
    simp only [Option.bind_some]
    by_cases k0 : G.kind (G.rep n) = 0
    · rw [if_pos k0, if_pos (show (G.kind (G.rep n) : Int) = 0 by omega)]
      have hnum := number_enc toI (x := G.rep n) (l := N.t) (fun y _ e => by unfold toI at e; omega)
      have hnl := numOf_len N.t (G.rep n)
      have hnum2 : number M.1 (G.rep n : Int) = (((Un.Gr.numOf N.t (G.rep n)).1 : Int), enc toI (Un.Gr.numOf N.t (G.rep n)).2 0) := by rw [hN.t]; exact hnum
      rw [hnum2]
      have hml : M.1.length < big := by rw [hN.t, enc_len]; unfold nsz at hsz; omega
      rw [if_pos ⟨by simp only; omega, hml⟩]
      refine ⟨_, _, (enc toI (Un.Gr.numOf N.t (G.rep n)).2 0, M.2), rfl, by simp, ⟨rfl, hN.r, hN.d⟩, ?_⟩
      unfold nsz
      simp only
      omega
    rw [if_neg k0, if_neg (show ¬ (G.kind (G.rep n) : Int) = 0 by omega), at_nat', at_nat', h.ka _ hl, h.kb _ hl]
    simp only [Option.bind_some]
    have nq : ∀ (q : Int) (P : Prop), (G.kind (G.rep n) : Int) ≠ q → ¬ ((G.kind (G.rep n) : Int) = q ∧ P) := fun q P h e => h e.1
    have leaf : ∀ (q : Nat), q = 1 ∨ q = 2 ∨ q = 3 → G.kind (G.rep n) = q → kid (G.kids (G.rep n)) 0 < 0 ∧ kid (G.kids (G.rep n)) 1 < 0 := by
      intro q hq e
      have : G.kids (G.rep n) = [] := List.length_eq_zero_iff.1 (by rw [hkl, e]; rcases hq with rfl | rfl | rfl <;> rfl)
      rw [this]
      exact ⟨by decide, by decide⟩
    have two : G.kind (G.rep n) = 5 ∨ G.kind (G.rep n) = 6 → ∃ x y, G.kids (G.rep n) = [x, y] := by
      intro e
      have : (G.kids (G.rep n)).length = 2 := by rw [hkl]; rcases e with e | e <;> rw [e] <;> rfl
      match hk2 : G.kids (G.rep n) with
      | [x, y] => exact ⟨x, y, rfl⟩
      | [] => rw [hk2] at this; cases this
      | [_] => rw [hk2] at this; cases this
      | _ :: _ :: _ :: _ => rw [hk2] at this; simp at this
    have sum2 : ∀ x y, G.kids (G.rep n) = [x, y] → ∃ a b, G.sz k x = some a ∧ G.sz k y = some b ∧ sm = a + b := by
      intro x y e
      rw [e] at z1
      unfold Un.Gr.sumO at z1
      obtain ⟨a, za, z2⟩ := Option.bind_eq_some_iff.1 z1
      obtain ⟨b, zb, rfl⟩ := Option.map_eq_some_iff.1 z2
      unfold Un.Gr.sumO at zb
      obtain ⟨b1, zb1, z3⟩ := Option.bind_eq_some_iff.1 zb
      obtain ⟨b2, zb2, rfl⟩ := Option.map_eq_some_iff.1 z3
      obtain rfl : 0 = b2 := Option.some.inj zb2
      exact ⟨a, b1, za, zb1, rfl⟩
    by_cases k1 : G.kind (G.rep n) = 1
    · obtain ⟨l1, l2⟩ := leaf 1 (.inl rfl) k1
      rw [if_pos k1, if_pos (show (G.kind (G.rep n) : Int) = 1 ∧ kid (G.kids (G.rep n)) 0 < 0 ∧ kid (G.kids (G.rep n)) 1 < 0 from ⟨by omega, l1, l2⟩)]
      exact ⟨_, _, _, rfl, rfl, hN, by omega⟩
    rw [if_neg k1, if_neg (nq 1 _ (by omega))]
    by_cases k2 : G.kind (G.rep n) = 2
    · obtain ⟨l1, l2⟩ := leaf 2 (.inr (.inl rfl)) k2
      rw [if_pos k2, if_pos (show (G.kind (G.rep n) : Int) = 2 ∧ kid (G.kids (G.rep n)) 0 < 0 ∧ kid (G.kids (G.rep n)) 1 < 0 from ⟨by omega, l1, l2⟩)]
      exact ⟨_, _, _, rfl, rfl, hN, by omega⟩
    rw [if_neg k2, if_neg (nq 2 _ (by omega))]
    by_cases k3 : G.kind (G.rep n) = 3
    · obtain ⟨l1, l2⟩ := leaf 3 (.inr (.inr rfl)) k3
      rw [if_pos k3, if_pos (show (G.kind (G.rep n) : Int) = 3 ∧ kid (G.kids (G.rep n)) 0 < 0 ∧ kid (G.kids (G.rep n)) 1 < 0 from ⟨by omega, l1, l2⟩)]
      exact ⟨_, _, _, rfl, rfl, hN, by omega⟩
    rw [if_neg k3, if_neg (nq 3 _ (by omega))]
    by_cases k4 : G.kind (G.rep n) = 4
    · have hk4 : (G.kids (G.rep n)).length = 1 := by rw [hkl, k4]; rfl
      obtain ⟨x, hk2⟩ : ∃ x, G.kids (G.rep n) = [x] := by
        match hk2 : G.kids (G.rep n) with
        | [x] => exact ⟨x, rfl⟩
        | [] => rw [hk2] at hk4; cases hk4
        | _ :: _ :: _ => rw [hk2] at hk4; simp at hk4
      rw [hk2] at z1 ⊢
      unfold Un.Gr.sumO at z1
      obtain ⟨a, za, z2⟩ := Option.bind_eq_some_iff.1 z1
      obtain ⟨b, zb, rfl⟩ := Option.map_eq_some_iff.1 z2
      obtain rfl : 0 = b := Option.some.inj zb
      rw [(kid_one x).1, (kid_one x).2, if_pos k4, if_pos (show (G.kind (G.rep n) : Int) = 4 ∧ 0 ≤ (x : Int) ∧ (-1 : Int) < 0 from ⟨by omega, by omega, by decide⟩)]
      obtain ⟨t, N', M', e1, e2, e3, e4⟩ := ih x a N M (kla x (by rw [hk2]; simp)) za hN (by omega)
      rw [show ([x] : List Nat).getD 0 0 = x from rfl, e1, e2]
      exact ⟨_, _, _, rfl, rfl, e3, by dsimp only; omega⟩
    rw [if_neg k4, if_neg (nq 4 _ (by omega))]
    by_cases k5 : G.kind (G.rep n) = 5
    · obtain ⟨x, y, hk2⟩ := two (.inl k5)
      obtain ⟨a, b, za, zb, rfl⟩ := sum2 x y hk2
      rw [hk2, (kid_two x y).1, (kid_two x y).2, if_pos k5, if_pos (show (G.kind (G.rep n) : Int) = 5 ∧ 0 ≤ (x : Int) ∧ 0 ≤ (y : Int) from ⟨by omega, by omega, by omega⟩)]
      obtain ⟨t, N', M', e1, e2, e3, e4⟩ := ih x a N M (kla x (by rw [hk2]; simp)) za hN (by omega)
      obtain ⟨t', N2, M2, q1, q2, q3, q4⟩ := ih y b N' M' (kla y (by rw [hk2]; simp)) zb e3 (by omega)
      rw [show ([x, y] : List Nat).getD 0 0 = x from rfl, show ([x, y] : List Nat).getD 1 0 = y from rfl, e1, e2]
      simp only [Option.bind_some]
      rw [q1, q2]
      exact ⟨_, _, _, rfl, rfl, q3, by dsimp only; omega⟩
    have k6 : G.kind (G.rep n) = 6 := by omega
    obtain ⟨x, y, hk2⟩ := two (.inr k6)
    obtain ⟨a, b, za, zb, rfl⟩ := sum2 x y hk2
    obtain ⟨ρ, w1, w2, w3⟩ := h.whole hG hb hT hl k6
    rw [if_neg k5, if_neg (nq 5 _ (by omega)), hk2, (kid_two x y).1, (kid_two x y).2, if_pos (show (G.kind (G.rep n) : Int) = 6 ∧ 0 ≤ (x : Int) ∧ 0 ≤ (y : Int) from ⟨by omega, by omega, by omega⟩)]
    obtain ⟨t, N', M', e1, e2, e3, e4⟩ := ih x a N M (kla x (by rw [hk2]; simp)) za hN (by omega)
    rw [show ([x, y] : List Nat).getD 0 0 = x from rfl, show ([x, y] : List Nat).getD 1 0 = y from rfl, e1, e2]
    simp only [Option.bind_some]
    rw [at_nat', w1]
    simp only [Option.bind_some]
    rw [whole_le w2 hf]
    simp only [Option.bind_some]
    have hrow : ∃ m R, rowNum (nx φ (G.whole (G.rep n)).2) M'.2 = some (m, R) ∧ (Un.Gr.rowOf N' (G.whole (G.rep n)).2).1 = m ∧ NR φ (Un.Gr.rowOf N' (G.whole (G.rep n)).2).2 (M'.1, R) ∧ nsz (Un.Gr.rowOf N' (G.whole (G.rep n)).2).2 ≤ nsz N' + 1 := by
      cases hv : (G.whole (G.rep n)).2 with
      | none =>
        refine ⟨0, M'.2, ?_, rfl, e3, by show nsz N' ≤ _; omega⟩
        unfold rowNum
        rw [if_neg (show ¬ (0 < nx φ none) by show ¬ ((0 : Int) < 0); omega)]
      | some v =>
        obtain ⟨y', hy'⟩ := w3 v hv
        have y0 := (h.vr v y' hy').2.1
        have hinj : ∀ u ∈ N'.r, Gn φ u = Gn φ v → u = v := fun u hu e => by
          obtain ⟨z, hz⟩ := e3.d u hu
          unfold Gn at e
          rw [nx_some hz, nx_some hy'] at e
          have : z = y' := by omega
          subst this
          exact h.inj u v z hz hy'
        have hnum := number_enc (Gn φ) hinj
        have hnl := numOf_len N'.r v
        have hml : M'.2.length < big := by rw [e3.r, enc_len]; unfold nsz at hsz e4; omega
        refine ⟨(Un.Gr.numOf N'.r v).1, enc (Gn φ) (Un.Gr.numOf N'.r v).2 0, ?_, rfl, ⟨e3.t, rfl, fun u hu => ?_⟩, ?_⟩
        · unfold rowNum
          have hg : nx φ (some v) = Gn φ v := rfl
          rw [if_pos (by rw [nx_some hy']; omega), e3.r, hg, hnum]
          rw [if_pos ⟨by simp only; omega, by rw [← e3.r]; exact hml⟩]
          simp
        · rcases numOf_mem hu with hu | rfl
          · exact e3.d u hu
          · exact ⟨y', hy'⟩
        · unfold nsz Un.Gr.rowOf
          simp only
          omega
    obtain ⟨m, R, r1, r2, r3, r4⟩ := hrow
    rw [r1]
    simp only [Option.bind_some]
    obtain ⟨t', N2, M2, q1, q2, q3, q4⟩ := ih y b _ (M'.1, R) (kla y (by rw [hk2]; simp)) zb r3 (by omega)
    rw [q1, q2, r2]
    exact ⟨_, _, _, rfl, rfl, q3, by dsimp only; omega⟩
end Dg
end Go.Proofs.YtficijneelpmcaaGreat

namespace Go.Proofs.YtficijneelpmcaaGreat
open Un (Srt joinB Nm Gr St put rvOf less Answers)
namespace Dg

theorem same_up {f : Nat} : ∀ {k : Nat} {d : D} {m n : Int} {p : Bool × D}, same f k d m n = some p → same f (k + 1) d m n = some p := by
  intro k
  induction k with
  | zero => intro d m n p h; cases h
  | succ k ih =>
    intro d m n p h
    rw [same] at h ⊢
    obtain ⟨m', hm, h⟩ := Option.bind_eq_some_iff.1 h
    obtain ⟨n', hn, h⟩ := Option.bind_eq_some_iff.1 h
    rw [hm, hn]
    simp only [Option.bind_some]
    by_cases e0 : m' = n'
    · rw [if_pos e0] at h ⊢; exact h
    rw [if_neg e0] at h ⊢
    obtain ⟨km, hkm, h⟩ := Option.bind_eq_some_iff.1 h
    rw [hkm]
    simp only [Option.bind_some]
    by_cases e1 : km = 0
    · rw [if_pos e1] at h ⊢; exact h
    rw [if_neg e1] at h ⊢
    obtain ⟨kn, hkn, h⟩ := Option.bind_eq_some_iff.1 h
    rw [hkn]
    simp only [Option.bind_some]
    by_cases e2 : kn = 0
    · rw [if_pos e2] at h ⊢; exact h
    rw [if_neg e2] at h ⊢
    by_cases e3 : km ≠ kn
    · rw [if_pos e3] at h ⊢; exact h
    rw [if_neg e3] at h ⊢
    obtain ⟨am, ham, h⟩ := Option.bind_eq_some_iff.1 h
    obtain ⟨an, han, h⟩ := Option.bind_eq_some_iff.1 h
    obtain ⟨bm, hbm, h⟩ := Option.bind_eq_some_iff.1 h
    obtain ⟨bn, hbn, h⟩ := Option.bind_eq_some_iff.1 h
    obtain ⟨rm, hrm, h⟩ := Option.bind_eq_some_iff.1 h
    obtain ⟨rn, hrn, h⟩ := Option.bind_eq_some_iff.1 h
    rw [ham, han, hbm, hbn, hrm, hrn]
    simp only [Option.bind_some]
    obtain ⟨q, hq, h⟩ := Option.bind_eq_some_iff.1 h
    have hq2 : (if 0 ≤ am then same f (k + 1) (d.lnk m'.toNat n') am an else some (true, d.lnk m'.toNat n')) = some q := by
      split at hq
      · rename_i h0; rw [if_pos h0]; exact ih hq
      · rename_i h0; rw [if_neg h0]; exact hq
    rw [hq2]
    simp only [Option.bind_some]
    by_cases e4 : q.1 = false
    · rw [if_pos e4] at h ⊢; exact h
    rw [if_neg e4] at h ⊢
    obtain ⟨r, hr, h⟩ := Option.bind_eq_some_iff.1 h
    have hr2 : (if 0 ≤ bm then same f (k + 1) q.2 bm bn else some (true, q.2)) = some r := by
      split at hr
      · rename_i h0; rw [if_pos h0]; exact ih hr
      · rename_i h0; rw [if_neg h0]; exact hr
    rw [hr2]
    exact h
theorem same_le {f k l : Nat} {d : D} {m n : Int} {p : Bool × D} (h : same f k d m n = some p) (hl : k ≤ l) : same f l d m n = some p := by
  induction l with
  | zero =>
    have : k = 0 := by omega
    subst this; exact h
  | succ l ih =>
    by_cases e : k = l + 1
    · subst e; exact h
    · exact same_up (ih (by omega))
theorem add_roots (G : Gr) (k : Nat) (ks : List Nat) (o : List Nm) (r : Option Nat) : (G.add k ks o r).roots ≤ G.roots + 1 := by
  unfold Un.Gr.roots
  show ((List.range (G.n + 1)).filter fun i => (if i = G.n then G.n else G.rep i) == i).length ≤ _
  rw [List.range_succ, List.filter_append, List.length_append]
  have h1 : (List.range G.n).filter (fun i => (if i = G.n then G.n else G.rep i) == i) = (List.range G.n).filter (fun i => G.rep i == i) := by
    refine List.filter_congr (fun i hi => ?_)
    have : i < G.n := by simpa using hi
    rw [if_neg (by omega)]
  rw [h1]
  have h2 := List.length_filter_le (fun i => (if i = G.n then G.n else G.rep i) == i) [G.n]
  simp only [List.length_singleton] at h2
  omega
theorem put_cost : ∀ (t : Ty.P), t.ok → ∀ (S : St), S.OK → ∀ (T : Nat), S.G.Bd T → (put t S).2.G.n ≤ S.G.n + t.parts ∧ (put t S).2.G.roots ≤ S.G.roots + t.parts ∧ (put t S).2.G.Bd (T + t.parts) := by
  intro t
  have leaf : ∀ (k : Nat) (S : St) (T : Nat), S.OK → S.G.Bd T → (S.G.add k [] [] none).n ≤ S.G.n + 1 ∧ (S.G.add k [] [] none).roots ≤ S.G.roots + 1 ∧ (S.G.add k [] [] none).Bd (T + 1) := fun k S T hS h =>
    ⟨Nat.le_refl _, add_roots _ _ _ _ _, (Un.Gr.add_bd hS.g h k [] [] none (fun x hx => by cases hx)).le (by simp)⟩
  induction t with
  | var n =>
    intro _ S hS T h
    unfold put
    cases S.tv.lookup n with
    | some i => exact ⟨Nat.le_add_right _ _, Nat.le_add_right _ _, h.le (Nat.le_add_right _ _)⟩
    | none => exact leaf 0 S T hS h
  | int => intro _ S hS T h; exact leaf 1 S T hS h
  | bool => intro _ S hS T h; exact leaf 2 S T hS h
  | unit => intro _ S hS T h; exact leaf 3 S T hS h
  | list a ih =>
    intro ht S hS T h
    obtain ⟨a1, a2, a3⟩ := ih ht S hS T h
    have b1 := add_roots (put a S).2.G 4 [(put a S).1] [] none
    refine ⟨?_, ?_, ?_⟩
    · show (put a S).2.G.n + 1 ≤ S.G.n + (1 + a.parts); omega
    · show (Un.Gr.add (put a S).2.G 4 [(put a S).1] [] none).roots ≤ S.G.roots + (1 + a.parts); omega
    · exact (Un.Gr.add_bd (Un.put_ok a ht S hS).1.g a3 4 [(put a S).1] [] none (fun x hx => by cases hx)).le (by show T + a.parts + 0 ≤ T + (1 + a.parts); omega)
  | pair a b iha ihb =>
    intro ht S hS T h
    obtain ⟨a1, a2, a3⟩ := iha ht.1 S hS T h
    have ok1 := (Un.put_ok a ht.1 S hS).1
    obtain ⟨b1, b2, b3⟩ := ihb ht.2 _ ok1 _ a3
    have c1 := add_roots (put b (put a S).2).2.G 5 [(put a S).1, (put b (put a S).2).1] [] none
    refine ⟨?_, ?_, ?_⟩
    · show (put b (put a S).2).2.G.n + 1 ≤ S.G.n + (1 + a.parts + b.parts); omega
    · show (Un.Gr.add (put b (put a S).2).2.G 5 [(put a S).1, (put b (put a S).2).1] [] none).roots ≤ S.G.roots + (1 + a.parts + b.parts); omega
    · exact (Un.Gr.add_bd (Un.put_ok b ht.2 _ ok1).1.g b3 5 [(put a S).1, (put b (put a S).2).1] [] none (fun x hx => by cases hx)).le (by show T + a.parts + b.parts + 0 ≤ T + (1 + a.parts + b.parts); omega)
  | fn a b o r iha ihb =>
    intro ht S hS T h
    obtain ⟨t1, t2, t3, t4, t5⟩ := ht
    obtain ⟨a1, a2, a3⟩ := iha t1 S hS T h
    have ok1 := (Un.put_ok a t1 S hS).1
    obtain ⟨b1, b2, b3⟩ := ihb t2 _ ok1 _ a3
    have ok2 := (Un.put_ok b t2 _ ok1).1
    have c1 := add_roots (put b (put a S).2).2.G 6 [(put a S).1, (put b (put a S).2).1] o (rvOf r)
    refine ⟨?_, ?_, ?_⟩
    · show (put b (put a S).2).2.G.n + 1 ≤ S.G.n + (1 + o.length + a.parts + b.parts); omega
    · show (Un.Gr.add (put b (put a S).2).2.G 6 [(put a S).1, (put b (put a S).2).1] o (rvOf r)).roots ≤ S.G.roots + (1 + o.length + a.parts + b.parts); omega
    · refine (Un.Gr.add_bd ok2.g b3 6 [(put a S).1, (put b (put a S).2).1] o (rvOf r) (fun x hx => ?_)).le (by show T + a.parts + b.parts + o.length ≤ T + (1 + o.length + a.parts + b.parts); omega)
      unfold rvOf at hx
      split at hx
      · cases hx
      · have := Option.some.inj hx
        have hb := ok2.big
        unfold Un.big at hb
        omega
theorem rowVar_len (r : Nat) (d : D) : (Dg.rowVar r d).2.ops.length ≤ d.ops.length + 1 := by
  unfold Dg.rowVar
  split
  · exact Nat.le_succ _
  · split
    · exact Nat.le_succ _
    · simp [D.putRow]
theorem of_len : ∀ (t : Ty.P) (d : D), (Dg.of t d).2.ops.length ≤ d.ops.length + 2 * t.parts := by
  intro t
  induction t with
  | var n =>
    intro d
    unfold Dg.of
    split
    · simp [Ty.P.parts]
    · simp [D.put, Ty.P.parts]
  | int => intro d; simp [Dg.of, D.put, Ty.P.parts]
  | bool => intro d; simp [Dg.of, D.put, Ty.P.parts]
  | unit => intro d; simp [Dg.of, D.put, Ty.P.parts]
  | list a ih => intro d; have := ih d; simp only [Dg.of, D.put, Ty.P.parts]; omega
  | pair a b iha ihb => intro d; have := iha d; have := ihb (Dg.of a d).2; simp only [Dg.of, D.put, Ty.P.parts]; omega
  | fn a b o r iha ihb =>
    intro d
    have := iha d
    have := ihb (Dg.of a d).2
    have h3 := rowVar_len r (Dg.of b (Dg.of a d).2).2
    simp only [Dg.of, D.put, D.putRow, Ty.P.parts, List.length_append, List.length_cons, List.length_nil]
    omega
theorem SimS.room {d : D} {S : St} {φ : Nat → Option Nat} {K N : Nat} (h : SimS d S φ K) (hn : S.G.n + N < big) (ho : d.ops.length + N < big) : d.room N :=
  ⟨by rw [h.g.lk]; exact hn, by rw [h.g.la]; exact hn, by rw [h.g.lb]; exact hn, by rw [h.g.lr]; exact hn, by rw [h.g.ll]; exact hn, ho, by rw [h.g.lo]; exact ho⟩
theorem tolds_sim {d : D} {G : Gr} {φ : Nat → Option Nat} {K f k T : Nat} (h : Sim d G φ K) (hG : G.OK) (hb : G.Bd T) (hT : T < big) (hf : K + 1 ≤ f) (hk : G.n ≤ k) : ∀ (l : List Nat) (N : Un.Gr.Nms) (M : NM), (∀ n ∈ l, n < G.n ∧ ∃ s, G.Parts n s ∧ s ≤ 300) → NR φ N M → nsz N + 300 * l.length < big →
    ∃ out, tolds f k d (l.map fun n : Nat => (n : Int)) M = some out ∧ Answers.ToldAll G l N out := by
  intro l
  induction l with
  | nil => intro N M _ _ _; exact ⟨[], rfl, rfl⟩
  | cons n l ih =>
    intro N M hl hN hs
    obtain ⟨hn, s, h1, h2⟩ := hl n (by simp)
    simp only [List.length_cons] at hs
    obtain ⟨t, N', M', e1, e2, e3, e4⟩ := told_sim h hG hb hT hf k n s N M hn (Un.Gr.sz_le (parts_depth hG hn h1) hk) hN (by omega)
    obtain ⟨out, o1, o2⟩ := ih N' M' (fun x hx => hl x (by simp [hx])) e3 (by omega)
    refine ⟨t :: out, ?_, k, t, N', out, e1, o2, rfl⟩
    show tolds f k d ((n : Int) :: l.map fun n : Nat => (n : Int)) M = _
    unfold tolds
    rw [e2]
    simp only [Option.bind_some]
    rw [o1]
    rfl
/-- What is left of the pairs, and what it costs. -/
structure Left (d : D) (S : St) (φ : Nat → Option Nat) (K R : Nat) : Prop where
  sim : SimS d S φ K
  ok : S.OK
  k1 : 1 ≤ K
  c : ∃ A B T, Cost d S.G K A B ∧ S.G.Bd T ∧ A + 2000 * R ≤ 100000 ∧ B + 2000 * R ≤ 100000 ∧ T + 600 * R ≤ 100000 ∧ S.G.n + 600 * R ≤ 100000
theorem solve_sim {f k : Nat} (hf : 200000 ≤ f) (hk : 200000 ≤ k) : ∀ (ps : List (Ty.P × Ty.P)) (i : Nat) (d : D) (S : St) (φ : Nat → Option Nat) (K : Nat) (l : List Nat), Left d S φ K ps.length → (∀ p ∈ ps, p.1.ok ∧ p.2.ok ∧ p.1.parts ≤ 300 ∧ p.2.parts ≤ 300) → (∀ n ∈ l, n < S.G.n ∧ ∃ s, S.G.Parts n s ∧ s ≤ 300) → l.length + ps.length ≤ 20 →
    ∃ out fk fa, solve f k ps i d (l.map fun n : Nat => (n : Int)) = some (out, fk, fa) ∧ Answers ps i S l out (fk, fa) := by
  intro ps
  induction ps with
  | nil =>
    intro i d S φ K l hL _ hl hlen
    obtain ⟨A, B, T, c1, c2, c3, c4, c5, c6⟩ := hL.c
    have hfu := c1.fu
    simp only [List.length_nil] at *
    obtain ⟨out, o1, o2⟩ := tolds_sim (f := f) (k := k) hL.sim.g hL.ok.g c2 (by unfold big; omega) (by omega) (by omega) l ⟨[], []⟩ ([], []) hl ⟨rfl, rfl, fun v hv => by cases hv⟩ (by unfold nsz big; simp; omega)
    refine ⟨out, 0, 0, ?_, rfl, o2⟩
    unfold solve
    rw [o1]
    rfl
  | cons p ps ih =>
    intro i d S φ K l hL hp hl hlen
    obtain ⟨A, B, T, c1, c2, c3, c4, c5, c6⟩ := hL.c
    have hfu := c1.fu
    have hop := c1.ops
    simp only [List.length_cons] at c3 c4 c5 c6 hlen
    obtain ⟨p1, p2, p3, p4⟩ := hp p (by simp)
    have q1 := p.1.parts_pos
    have q2 := p.2.parts_pos
    have bg : big = 1000000000 := rfl
    have room : d.room (3 * p.1.parts + 3 * p.2.parts) := hL.sim.room (by omega) (by omega)
    unfold solve
    rw [if_pos room]
    obtain ⟨φ1, e1, s1⟩ := SimS.of hL.k1 p.1 p1 d S φ hL.ok hL.sim
    have ok1 := (Un.put_ok p.1 p1 S hL.ok).1
    obtain ⟨φ2, e2, s2⟩ := SimS.of hL.k1 p.2 p2 _ _ φ1 ok1 s1
    obtain ⟨ok2, x2, n2, m2, _⟩ := Un.put_ok p.2 p2 _ ok1
    obtain ⟨_, x1, n1, m1, _⟩ := Un.put_ok p.1 p1 S hL.ok
    obtain ⟨z1, z2, z3⟩ := put_cost p.1 p1 S hL.ok T c2
    obtain ⟨y1, y2, y3⟩ := put_cost p.2 p2 _ ok1 _ z3
    have o1 := of_len p.1 d
    have o2 := of_len p.2 (Dg.of p.1 d).2
    have cost : Cost (Dg.of p.2 (Dg.of p.1 d).2).2 (put p.2 (put p.1 S).2).2.G K (A + 3 * (p.1.parts + p.2.parts)) (B + 3 * (p.1.parts + p.2.parts)) := ⟨by omega, by omega⟩
    rw [e1, e2]
    have hres := same_sim (f := f) (T := T + p.1.parts + p.2.parts) (by omega) ((put p.2 (put p.1 S).2).2.G.n + 1) (A + 3 * (p.1.parts + p.2.parts)) (B + 3 * (p.1.parts + p.2.parts)) (put p.2 (put p.1 S).2).2.G _ φ2 K (put p.1 S).1 (put p.2 (put p.1 S).2).1 (by omega) (by omega) (by omega) ok2.g y3 s2.g hL.k1 cost (by omega) x2 (Nat.lt_succ_of_le (by unfold Un.Gr.roots; exact Nat.le_trans (List.length_filter_le _ _) (by simp)))
    have hl2 : (l.map fun n : Nat => (n : Int)) ++ [((put p.1 S).1 : Int)] = (l ++ [(put p.1 S).1]).map fun n : Nat => (n : Int) := by simp
    rw [hl2]
    unfold Answers
    simp only
    cases hu : Un.Gr.uni ((put p.2 (put p.1 S).2).2.G.n + 1) (put p.2 (put p.1 S).2).2.G (put p.1 S).1 (put p.2 (put p.1 S).2).1 with
    | none =>
      obtain ⟨d', hd⟩ := hres.1 hu
      rw [same_le hd (by omega)]
      exact ⟨[], 8, i, rfl, rfl, rfl⟩
    | some H =>
      obtain ⟨d', φ3, K', hd, g1, g2, g3, g4⟩ := hres.2 H hu
      obtain ⟨hok, hext⟩ := Un.Gr.uni_ok _ _ _ _ H ok2.g (by omega) x2 hu
      have hbd := Un.Gr.uni_bd _ _ _ _ H ok2.g y3 (by omega) x2 hu
      rw [same_le hd (by omega)]
      simp only [Option.bind_some]
      rw [if_neg (by simp)]
      have hn : H.n = (put p.2 (put p.1 S).2).2.G.n := hext.n
      have hro := hext.roots
      have gfu := g3.fu
      have hlt : ∀ n ∈ l ++ [(put p.1 S).1], n < H.n := by
        intro n hn2
        rcases List.mem_append.1 hn2 with h1 | h1
        · have := (hl n h1).1; omega
        · obtain rfl := List.mem_singleton.1 h1; omega
      obtain ⟨b, b1, b2⟩ := rounds_top (f := f) (k := k) g1 hok (by omega) (by omega) (l ++ [(put p.1 S).1]) hlt
      rw [b1]
      simp only [Option.bind_some]
      cases b with
      | true =>
        refine ⟨[], 8, i, rfl, .inl ⟨?_, rfl, rfl⟩⟩
        apply Classical.byContradiction
        intro hno
        have : true = false := b2.2 (fun n hn2 => Classical.byContradiction (fun h3 => hno ⟨n, hn2, h3⟩))
        cases this
      | false =>
        have hends := b2.1 rfl
        rw [if_neg (by simp)]
        obtain ⟨b', b1', b2'⟩ := bigs_top (f := f) (k := k) g1 hok hbd (by omega) (by omega) (by omega) (l ++ [(put p.1 S).1]) (fun n hn2 => ⟨hlt n hn2, hends n hn2⟩)
        rw [b1']
        simp only [Option.bind_some]
        cases b' with
        | true =>
          refine ⟨[], 10, i, rfl, .inr (.inl ⟨hends, ?_, rfl, rfl⟩)⟩
          apply Classical.byContradiction
          intro hno
          have : true = false := b2'.2 (fun n hn2 => by
            obtain ⟨s, hs⟩ := hends n hn2
            exact ⟨s, hs, Nat.le_of_not_lt (fun h3 => hno ⟨n, hn2, s, hs, h3⟩)⟩)
          cases this
        | false =>
          have hparts := b2'.1 rfl
          rw [if_neg (by simp)]
          have hkept := same_kept hd
          have L' : Left d' ⟨H, (put p.2 (put p.1 S).2).2.tv⟩ φ3 K' ps.length := by
            refine ⟨⟨g1, fun n => ?_, fun r hr => ?_⟩, ⟨hok, Nat.le_trans ok2.big hext.m, fun q hq => ?_⟩, g2, _, _, _, g3, hbd, by omega, by omega, by omega, by show H.n + 600 * ps.length ≤ 100000; omega⟩
            · rw [hkept.tv]; exact s2.tv n
            · rw [hkept.rv, s2.rv r hr, g4 r (Nat.lt_of_lt_of_le hr ok2.big)]
            · show q.2 < H.n
              rw [hn]; exact ok2.tv q hq
          obtain ⟨out, fk, fa, r1, r2⟩ := ih (i + 1) d' _ φ3 K' (l ++ [(put p.1 S).1]) L' (fun q hq => hp q (by simp [hq])) (fun n hn2 => ⟨hlt n hn2, hparts n hn2⟩) (by simp; omega)
          exact ⟨out, fk, fa, r1, .inr (.inr ⟨hparts, r2⟩)⟩
theorem left_start {n : Nat} (hn : n ≤ 20) : Left Dg.empty ⟨Un.emptyG, []⟩ (fun _ => none) 1 n := by
  refine ⟨⟨?_, fun n => rfl, fun r _ => rfl⟩, ⟨Un.empty_ok, Nat.le_refl _, fun p hp => by cases hp⟩, Nat.le_refl _, 1, 1, 0, ⟨by decide, by decide⟩, ⟨[], ⟨fun i hi => absurd hi (Nat.not_lt_zero i), fun r _ => Nat.zero_le _⟩, Nat.le_refl _⟩, by omega, by omega, by omega, by show 0 + 600 * n ≤ 100000; omega⟩
  exact ⟨rfl, rfl, rfl, rfl, rfl, rfl, Nat.le_refl _, fun i hi => absurd hi (Nat.not_lt_zero i), fun i hi => absurd hi (Nat.not_lt_zero i), fun i hi => absurd hi (Nat.not_lt_zero i), fun i hi => absurd hi (Nat.not_lt_zero i), fun i hi => absurd hi (Nat.not_lt_zero i), fun i hi => absurd hi (Nat.not_lt_zero i), fun r x hx => (by cases hx), fun v x hx => (by cases hx), fun r _ _ => rfl, fun r r' x hx => (by cases hx)⟩
/-- The document's answer is the graph's. -/
theorem solve_top (ps : List (Ty.P × Ty.P)) (hn : ps.length ≤ 20) (hp : ∀ p ∈ ps, p.1.ok ∧ p.2.ok ∧ p.1.parts ≤ 300 ∧ p.2.parts ≤ 300) : ∃ f k out fk fa, solve f k ps 0 Dg.empty [] = some (out, fk, fa) ∧ Answers ps 0 ⟨Un.emptyG, []⟩ [] out (fk, fa) := by
  obtain ⟨f, hf⟩ : ∃ f : Nat, 200000 ≤ f := ⟨200000, Nat.le_refl _⟩
  obtain ⟨out, fk, fa, h1, h2⟩ := solve_sim (f := f) (k := f) hf hf ps 0 Dg.empty ⟨Un.emptyG, []⟩ (fun _ => none) 1 [] (left_start hn) hp (fun n hn => by cases hn) (by simpa using hn)
  exact ⟨f, f, out, fk, fa, h1, h2⟩
end Dg
end Go.Proofs.YtficijneelpmcaaGreat
