/-
  The document's Same: plain laws; a link in memory.
-/
import Derived.Test.YtcogpcalghfghaaMDee
import Derived.Test.YtcogpcalghfghaaRq
set_option linter.unusedVariables false
set_option linter.unusedSimpArgs false
namespace Go.Proofs.Ytcogpcalghfghaa
open Go.RowKit

namespace Dg
/-- What making the same leaves as it is. -/
structure Kept (d d' : D) : Prop where
  kind : d'.kind = d.kind
  a : d'.a = d.a
  b : d'.b = d.b
  row : d'.row = d.row
  tv : d'.tv = d.tv
  rv : d'.rv = d.rv
theorem Kept.refl (d : D) : Kept d d := ⟨rfl, rfl, rfl, rfl, rfl, rfl⟩
theorem Kept.trans {d e g : D} (h : Kept d e) (k : Kept e g) : Kept d g := ⟨k.kind.trans h.kind, k.a.trans h.a, k.b.trans h.b, k.row.trans h.row, k.tv.trans h.tv, k.rv.trans h.rv⟩
theorem lnk_kept (d : D) (m : Nat) (n : Int) : Kept d (d.lnk m n) := ⟨rfl, rfl, rfl, rfl, rfl, rfl⟩
theorem stands_kept {d d' : D} {v x : Int} {o : List Un.Nm} (h : stands d v o x = some d') : Kept d d' := by
  unfold stands at h
  split at h
  · obtain rfl := Option.some.inj h
    exact ⟨rfl, rfl, rfl, rfl, rfl, rfl⟩
  · cases h
theorem sameRow_kept {f : Nat} {d d' : D} {r s : Int} {ok : Bool} (h : sameRow f d r s = some (ok, d')) : Kept d d' := by
  unfold sameRow at h
  obtain ⟨p, _, h1⟩ := Option.bind_eq_some_iff.1 h
  obtain ⟨q, _, h2⟩ := Option.bind_eq_some_iff.1 h1
  clear h h1
  split at h2
  case isFalse => cases h2
  split at h2
  · obtain ⟨_, rfl⟩ := Prod.mk.inj (Option.some.inj h2)
    exact Kept.refl _
  · split at h2
    · split at h2
      · obtain ⟨_, rfl⟩ := Prod.mk.inj (Option.some.inj h2)
        exact Kept.refl _
      · obtain ⟨e, he, h3⟩ := Option.map_eq_some_iff.1 h2
        obtain ⟨_, rfl⟩ := Prod.mk.inj h3
        exact stands_kept he
    · split at h2
      · split at h2
        · obtain ⟨_, rfl⟩ := Prod.mk.inj (Option.some.inj h2)
          exact Kept.refl _
        · obtain ⟨e, he, h3⟩ := Option.map_eq_some_iff.1 h2
          obtain ⟨_, rfl⟩ := Prod.mk.inj h3
          exact stands_kept he
      · split at h2
        · obtain ⟨e, he, h3⟩ := Option.bind_eq_some_iff.1 h2
          obtain ⟨e2, he2, h4⟩ := Option.map_eq_some_iff.1 h3
          obtain ⟨_, rfl⟩ := Prod.mk.inj h4
          exact Kept.trans (e := d.putRow [] (-1)) ⟨rfl, rfl, rfl, rfl, rfl, rfl⟩ ((stands_kept he).trans (stands_kept he2))
        · cases h2
/-- What is told of a step of same behind its finds: the two are apart, of one kind, and no variables. -/
structure Deep (f k : Nat) (d : D) (m n km am an bm bn rm rn : Int) (ok : Bool) (d' : D) : Prop where
  hm : at? d.kind m = some km
  hn : at? d.kind n = some km
  ham : at? d.a m = some am
  han : at? d.a n = some an
  hbm : at? d.b m = some bm
  hbn : at? d.b n = some bn
  hrm : at? d.row m = some rm
  hrn : at? d.row n = some rn
  go : ((if 0 ≤ am then same f k (d.lnk m.toNat n) am an else some (true, d.lnk m.toNat n)).bind fun p => if p.1 = false then some (false, p.2) else
    (if 0 ≤ bm then same f k p.2 bm bn else some (true, p.2)).bind fun q => if q.1 = false then some (false, q.2) else
    if km = 6 then sameRow f q.2 rm rn else some (true, q.2)) = some (ok, d')
theorem same_cases {f k : Nat} {d d' : D} {m n : Int} {ok : Bool} (h : same f (k + 1) d m n = some (ok, d')) : ∃ m' n', find f d.link m = some m' ∧ find f d.link n = some n' ∧ (
    (m' = n' ∧ ok = true ∧ d' = d) ∨ (m' ≠ n' ∧ at? d.kind m' = some 0 ∧ ok = true ∧ d' = d.lnk m'.toNat n') ∨
    ∃ km kn, m' ≠ n' ∧ at? d.kind m' = some km ∧ km ≠ 0 ∧ at? d.kind n' = some kn ∧ ((kn = 0 ∧ ok = true ∧ d' = d.lnk n'.toNat m') ∨ (kn ≠ 0 ∧ km ≠ kn ∧ ok = false ∧ d' = d) ∨ (kn ≠ 0 ∧ km = kn ∧ ∃ am an bm bn rm rn, Deep f k d m' n' km am an bm bn rm rn ok d'))) := by
  unfold same at h
  obtain ⟨m', h1, h⟩ := Option.bind_eq_some_iff.1 h
  obtain ⟨n', h2, h⟩ := Option.bind_eq_some_iff.1 h
  refine ⟨m', n', h1, h2, ?_⟩
  split at h
  · rename_i e
    obtain ⟨e1, e2⟩ := Prod.mk.inj (Option.some.inj h)
    exact .inl ⟨e, e1.symm, e2.symm⟩
  · rename_i e
    obtain ⟨km, h3, h⟩ := Option.bind_eq_some_iff.1 h
    split at h
    · rename_i e0
      subst e0
      obtain ⟨e1, e2⟩ := Prod.mk.inj (Option.some.inj h)
      exact .inr (.inl ⟨e, h3, e1.symm, e2.symm⟩)
    · rename_i e0
      obtain ⟨kn, h4, h⟩ := Option.bind_eq_some_iff.1 h
      refine .inr (.inr ⟨km, kn, e, h3, e0, h4, ?_⟩)
      split at h
      · rename_i e1
        obtain ⟨e2, e3⟩ := Prod.mk.inj (Option.some.inj h)
        exact .inl ⟨e1, e2.symm, e3.symm⟩
      · rename_i e1
        split at h
        · rename_i e2
          obtain ⟨e3, e4⟩ := Prod.mk.inj (Option.some.inj h)
          exact .inr (.inl ⟨e1, e2, e3.symm, e4.symm⟩)
        · rename_i e2
          have e3 : km = kn := by simpa using e2
          obtain ⟨am, h5, h⟩ := Option.bind_eq_some_iff.1 h
          obtain ⟨an, h6, h⟩ := Option.bind_eq_some_iff.1 h
          obtain ⟨bm, h7, h⟩ := Option.bind_eq_some_iff.1 h
          obtain ⟨bn, h8, h⟩ := Option.bind_eq_some_iff.1 h
          obtain ⟨rm, h9, h⟩ := Option.bind_eq_some_iff.1 h
          obtain ⟨rn, h10, h⟩ := Option.bind_eq_some_iff.1 h
          exact .inr (.inr ⟨e1, e3, am, an, bm, bn, rm, rn, h3, by rw [e3]; exact h4, h5, h6, h7, h8, h9, h10, h⟩)
theorem same_kept {f : Nat} : ∀ {k : Nat} {d d' : D} {m n : Int} {ok : Bool}, same f k d m n = some (ok, d') → Kept d d'
  | 0, _, _, _, _, _, h => by cases h
  | k + 1, d, d', m, n, ok, h => by
    obtain ⟨m', n', _, _, ⟨_, _, rfl⟩ | ⟨_, _, _, rfl⟩ | ⟨km, kn, _, _, _, _, ⟨_, _, rfl⟩ | ⟨_, _, _, rfl⟩ | ⟨_, _, am, an, bm, bn, rm, rn, hd⟩⟩⟩ := same_cases h
    · exact Kept.refl _
    · exact lnk_kept _ _ _
    · exact lnk_kept _ _ _
    · exact Kept.refl _
    · obtain ⟨p, hp, hg⟩ := Option.bind_eq_some_iff.1 hd.go
      have k1 : Kept d p.2 := by
        split at hp
        · exact (lnk_kept d m'.toNat n').trans (same_kept (k := k) (ok := p.1) (d' := p.2) hp)
        · obtain rfl := Option.some.inj hp; exact lnk_kept _ _ _
      split at hg
      · obtain ⟨_, rfl⟩ := Prod.mk.inj (Option.some.inj hg); exact k1
      · obtain ⟨q, hq, hg⟩ := Option.bind_eq_some_iff.1 hg
        have k2 : Kept d q.2 := by
          split at hq
          · exact k1.trans (same_kept (k := k) (ok := q.1) (d' := q.2) hq)
          · obtain rfl := Option.some.inj hq; exact k1
        split at hg
        · obtain ⟨_, rfl⟩ := Prod.mk.inj (Option.some.inj hg); exact k2
        · split at hg
          · exact k2.trans (sameRow_kept hg)
          · obtain ⟨_, rfl⟩ := Prod.mk.inj (Option.some.inj hg); exact k2
end Dg
end Go.Proofs.Ytcogpcalghfghaa
