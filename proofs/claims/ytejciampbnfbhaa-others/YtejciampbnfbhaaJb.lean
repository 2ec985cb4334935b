import Derived.Test.YtejciampbnfbhaaMLex
set_option linter.unusedVariables false
set_option linter.unusedSimpArgs false
namespace Go.Proofs.Ytejciampbnfbhaa
namespace Ie
open Un (Nm ins joinB less)
theorem Tri.get_no {α : Type} (k n : Nat) : (Tri.no : Tri α).get k n = none := by cases k <;> rfl
theorem Tri.get_set {α : Type} (x : α) : ∀ (k : Nat) (t : Tri α) (n : Nat), (t.set k n x).get k n = some x := by
 intro k
 induction k with
 | zero => intro t n; cases t <;> rfl
 | succ k ih =>
  intro t n
  cases t <;> (simp only [Tri.set]; rcases Nat.mod_two_eq_zero_or_one n with h | h <;> simp [h, Tri.get, ih])
theorem Tri.get_other {α : Type} (x : α) : ∀ (k : Nat) (t : Tri α) (n m : Nat), n < 2 ^ k → m < 2 ^ k → n ≠ m → (t.set k n x).get k m = t.get k m := by
 intro k
 induction k with
 | zero => intro t n m hn hm hne; simp at hn hm; omega
 | succ k ih =>
  intro t n m hn hm hne
  rw [Nat.pow_succ] at hn hm
  have hn2 : n / 2 < 2 ^ k := by omega
  have hm2 : m / 2 < 2 ^ k := by omega
  cases t <;> (simp only [Tri.set]; rcases Nat.mod_two_eq_zero_or_one n with h | h <;> rcases Nat.mod_two_eq_zero_or_one m with h2 | h2 <;> simp [h, h2, Tri.get, Tri.get_no])
  all_goals (rw [ih _ _ _ hn2 hm2 (by omega)]; try simp [Tri.get_no])
theorem isNat_iff {x : Int} : isNat x = true ↔ 0 ≤ x := by
 cases x with
 | ofNat n => simp [isNat]
 | negSucc n => simp only [isNat, Bool.false_eq_true, false_iff]; omega
theorem cond_nat {α : Type} {x : Int} {a b : α} : (bif isNat x then a else b) = if 0 ≤ x then a else b := by
 by_cases h : 0 ≤ x
 ·rw [if_pos h, isNat_iff.2 h]; rfl
 ·rw [if_neg h, Bool.eq_false_iff.2 (fun e => h (isNat_iff.1 e))]; rfl
structure R (e : E) (d : Dg.D) : Prop where
 l0 : d.kind.length = e.n
 l1 : d.a.length = e.n
 l2 : d.b.length = e.n
 l3 : d.row.length = e.n
 l4 : d.link.length = e.n
 l5 : d.ops.length = e.m
 l6 : d.next.length = e.m
 bn : e.n ≤ 8192
 bm : e.m ≤ 8192
 nd : ∀ i, i < e.n → ∃ x, e.nd.get dp i = some x ∧ d.kind[i]? = some x.k ∧ d.a[i]? = some x.a ∧ d.b[i]? = some x.b ∧ d.row[i]? = some x.r ∧ d.link[i]? = some x.l
 rw : ∀ i, i < e.m → ∃ x, e.rw.get dp i = some x ∧ d.ops[i]? = some x.1 ∧ d.next[i]? = some x.2
theorem R.small {e : E} {d : Dg.D} (h : R e d) : d.small := by
 have h0 := h.bn
 have h1 := h.bm
 unfold Dg.D.small Dg.big
 rw [h.l0, h.l1, h.l2, h.l3, h.l4, h.l5, h.l6]
 omega
theorem R.room {e : E} {d : Dg.D} (h : R e d) {N : Nat} (hN : N < 1000000) : d.room N := by
 have h0 := h.bn
 have h1 := h.bm
 constructor <;> simp only [h.l0, h.l1, h.l2, h.l3, h.l4, h.l5, h.l6, Dg.big] <;> omega
theorem at_of {α : Type} {l : List α} {i : Nat} {x : α} (h : l[i]? = some x) : Dg.at? l (i : Int) = some x := by
 unfold Dg.at?
 rw [if_neg (by omega)]
 simpa using h
theorem R.at {e : E} {d : Dg.D} (h : R e d) {i : Int} {x : Nd} (hx : e.at i = some x) : ∃ n : Nat, i = n ∧ n < e.n ∧ Dg.at? d.kind i = some x.k ∧ Dg.at? d.a i = some x.a ∧ Dg.at? d.b i = some x.b ∧ Dg.at? d.row i = some x.r ∧ Dg.at? d.link i = some x.l := by
 cases i with
 | negSucc n => cases hx
 | ofNat n =>
  simp only [E.at] at hx
  cases hb : Nat.blt n e.n with
  | false => rw [hb] at hx; cases hx
  | true =>
   rw [hb] at hx; have hlt : n < e.n := by simpa [Nat.blt_eq] using hb
   obtain ⟨y, h1, h2, h3, h4, h5, h6⟩ := h.nd n hlt; obtain rfl : y = x := by have : some y = some x := h1.symm.trans hx; exact Option.some.inj this
   exact ⟨n, rfl, hlt, at_of h2, at_of h3, at_of h4, at_of h5, at_of h6⟩
theorem R.row {e : E} {d : Dg.D} (h : R e d) {i : Int} {x : List Nm × Int} (hx : e.row i = some x) : ∃ n : Nat, i = n ∧ n < e.m ∧ Dg.at? d.ops i = some x.1 ∧ Dg.at? d.next i = some x.2 := by
 cases i with
 | negSucc n => cases hx
 | ofNat n =>
  simp only [E.row] at hx
  cases hb : Nat.blt n e.m with
  | false => rw [hb] at hx; cases hx
  | true =>
   rw [hb] at hx; have hlt : n < e.m := by simpa [Nat.blt_eq] using hb
   obtain ⟨y, h1, h2, h3⟩ := h.rw n hlt; obtain rfl : y = x := by have : some y = some x := h1.symm.trans hx; exact Option.some.inj this
   exact ⟨n, rfl, hlt, at_of h2, at_of h3⟩
theorem R.put {e e' : E} {d : Dg.D} (h : R e d) {k a b r n : Int} (hx : e.put k a b r = some (n, e')) : n = (d.kind.length : Nat) ∧ R e' (d.put k a b r) := by
 unfold E.put at hx
 cases hb : Nat.blt e.n 8192 with
 | false => rw [hb] at hx; cases hx
 | true =>
  rw [hb] at hx
  have hlt : e.n < 8192 := by simpa [Nat.blt_eq] using hb
  obtain ⟨rfl, rfl⟩ := Prod.mk.inj (Option.some.inj hx)
  refine ⟨by rw [h.l0], ?_⟩
  constructor <;> simp only [Dg.D.put, List.length_append, List.length_cons, List.length_nil, h.l0, h.l1, h.l2, h.l3, h.l4, h.l5, h.l6]
  ·omega
  ·exact h.bm
  ·intro i hi
   by_cases he : i = e.n
   ·subst he
    refine ⟨_, Tri.get_set _ _ _ _, ?_, ?_, ?_, ?_, ?_⟩
    ·rw [← h.l0, List.getElem?_concat_length]
    ·rw [← h.l1, List.getElem?_concat_length]
    ·rw [← h.l2, List.getElem?_concat_length]
    ·rw [← h.l3, List.getElem?_concat_length]
    ·rw [← h.l4, List.getElem?_concat_length]
   ·have hi2 : i < e.n := by omega
    obtain ⟨x, h1, h2, h3, h4, h5, h6⟩ := h.nd i hi2; refine ⟨x, ?_, ?_, ?_, ?_, ?_, ?_⟩
    ·rw [Tri.get_other _ _ _ _ _ (by omega) (by have : (2 : Nat) ^ dp = 8192 := rfl; omega) (by omega)]
     exact h1
    ·rw [List.getElem?_append_left (by rw [h.l0]; exact hi2)]; exact h2
    ·rw [List.getElem?_append_left (by rw [h.l1]; exact hi2)]; exact h3
    ·rw [List.getElem?_append_left (by rw [h.l2]; exact hi2)]; exact h4
    ·rw [List.getElem?_append_left (by rw [h.l3]; exact hi2)]; exact h5
    ·rw [List.getElem?_append_left (by rw [h.l4]; exact hi2)]; exact h6
  ·exact h.rw
theorem R.putRow {e e' : E} {d : Dg.D} (h : R e d) {o : List Nm} {x n : Int} (hx : e.putRow o x = some (n, e')) : n = (d.ops.length : Nat) ∧ R e' (d.putRow o x) := by
 unfold E.putRow at hx
 cases hb : Nat.blt e.m 8192 with
 | false => rw [hb] at hx; cases hx
 | true =>
  rw [hb] at hx
  have hlt : e.m < 8192 := by simpa [Nat.blt_eq] using hb
  obtain ⟨rfl, rfl⟩ := Prod.mk.inj (Option.some.inj hx)
  refine ⟨by rw [h.l5], ?_⟩
  constructor <;> simp only [Dg.D.putRow, List.length_append, List.length_cons, List.length_nil, h.l0, h.l1, h.l2, h.l3, h.l4, h.l5, h.l6]
  ·exact h.bn
  ·omega
  ·exact h.nd
  ·intro i hi
   by_cases he : i = e.m
   ·subst he
    refine ⟨_, Tri.get_set _ _ _ _, ?_, ?_⟩
    ·rw [← h.l5, List.getElem?_concat_length]
    ·rw [← h.l6, List.getElem?_concat_length]
   ·have hi2 : i < e.m := by omega
    obtain ⟨y, h1, h2, h3⟩ := h.rw i hi2; refine ⟨y, ?_, ?_, ?_⟩
    ·rw [Tri.get_other _ _ _ _ _ (by have : (2 : Nat) ^ dp = 8192 := rfl; omega) (by have : (2 : Nat) ^ dp = 8192 := rfl; omega) (by omega)]
     exact h1
    ·rw [List.getElem?_append_left (by rw [h.l5]; exact hi2)]; exact h2
    ·rw [List.getElem?_append_left (by rw [h.l6]; exact hi2)]; exact h3
theorem R.lnk {e e' : E} {d : Dg.D} (h : R e d) {i x : Int} (hx : e.lnk i x = some e') : R e' (d.lnk i.toNat x) := by
 obtain ⟨y, hy, rfl⟩ := Option.map_eq_some_iff.1 hx
 obtain ⟨n, rfl, hlt, _⟩ := h.at hy
 have hbn := h.bn
 obtain ⟨y', h1, h2, h3, h4, h5, h6⟩ := h.nd n hlt
 have hy2 : e.nd.get dp n = some y := by
  have : E.at e (Int.ofNat n) = some y := hy
  simp only [E.at] at this
  rwa [show Nat.blt n e.n = true from by simpa [Nat.blt_eq] using hlt] at this
 obtain rfl : y' = y := Option.some.inj (h1.symm.trans hy2)
 constructor <;> simp only [Dg.D.lnk, List.length_set, h.l0, h.l1, h.l2, h.l3, h.l4, h.l5, h.l6]
 ·exact h.bn
 ·exact h.bm
 ·intro j hj
  by_cases he : n = j
  ·subst he
   refine ⟨_, Tri.get_set _ _ _ _, h2, h3, h4, h5, ?_⟩
   simp [h.l4, hlt]
  ·obtain ⟨z, g1, g2, g3, g4, g5, g6⟩ := h.nd j hj
   refine ⟨z, ?_, g2, g3, g4, g5, ?_⟩
   ·rw [Tri.get_other _ _ _ _ _ (by have : (2 : Nat) ^ dp = 8192 := rfl; simp; omega) (by have : (2 : Nat) ^ dp = 8192 := rfl; omega) (by simpa using he)]
    exact g1
   ·rw [List.getElem?_set_ne (by simpa using he)]; exact g6
 ·exact h.rw
theorem R.stands {e e' : E} {d : Dg.D} (h : R e d) {v x : Int} {o : List Nm} (hx : e.stands v o x = some e') : ∃ d', Dg.stands d v o x = some d' ∧ R e' d' := by
 obtain ⟨y, hy, rfl⟩ := Option.map_eq_some_iff.1 hx
 obtain ⟨n, rfl, hlt, _⟩ := h.row hy
 have hbm := h.bm
 unfold Dg.stands
 rw [if_pos ⟨by omega, by rw [h.l5]; omega, by rw [h.l6]; omega⟩]
 refine ⟨_, rfl, ?_⟩
 constructor <;> simp only [List.length_set, h.l0, h.l1, h.l2, h.l3, h.l4, h.l5, h.l6]
 ·exact h.bn
 ·exact h.bm
 ·exact h.nd
 ·intro j hj
  by_cases he : n = j
  ·subst he
   refine ⟨_, Tri.get_set _ _ _ _, ?_, ?_⟩
   ·simp [h.l5, hlt]
   ·simp [h.l6, hlt]
  ·obtain ⟨z, g1, g2, g3⟩ := h.rw j hj
   refine ⟨z, ?_, ?_, ?_⟩
   ·rw [Tri.get_other _ _ _ _ _ (by have : (2 : Nat) ^ dp = 8192 := rfl; simp; omega) (by have : (2 : Nat) ^ dp = 8192 := rfl; omega) (by simpa using he)]
    exact g1
   ·rw [List.getElem?_set_ne (by simpa using he)]; exact g2
   ·rw [List.getElem?_set_ne (by simpa using he)]; exact g3
theorem R.find {e : E} {d : Dg.D} (h : R e d) : ∀ {f : Nat} {n m : Int}, Ie.find f e n = some m → Dg.find f d.link n = some m
 | 0, _, _, hf => by cases hf
 | f + 1, n, m, hf => by
  unfold Ie.find at hf
  obtain ⟨x, hx, hf⟩ := Option.bind_eq_some_iff.1 hf
  obtain ⟨_, _, _, _, _, _, _, hl⟩ := h.at hx
  unfold Dg.find
  rw [hl]
  rw [cond_nat] at hf
  simp only [Option.bind_some]
  split at hf
  ·rename_i h0
   rw [if_pos h0]; exact h.find hf
  ·rename_i h0
   rw [if_neg h0]; exact hf
theorem R.whole {e : E} {d : Dg.D} (h : R e d) : ∀ {f : Nat} {r : Int} {l : List Nm} {p : List Nm × Int}, Ie.whole f e r l = some p → Dg.whole f d r l = some p
 | 0, _, _, _, hf => by cases hf
 | f + 1, r, l, p, hf => by
  unfold Ie.whole at hf
  obtain ⟨x, hx, hf⟩ := Option.bind_eq_some_iff.1 hf
  obtain ⟨_, _, _, h1, h2⟩ := h.row hx
  unfold Dg.whole
  rw [h1, h2]
  simp only [Option.bind_some]
  split at hf
  ·rename_i h0
   rw [if_pos h0]
   split at hf
   ·rename_i h3; rw [if_pos h3]; exact hf
   ·rename_i h3
    rw [if_neg h3]
    split at hf
    ·rename_i h4; rw [if_pos h4]; exact hf
    ·rename_i h4; rw [if_neg h4]; exact h.whole hf
  ·cases hf
theorem R.sameRow {e e' : E} {d : Dg.D} (h : R e d) {f : Nat} {r s : Int} {ok : Bool} (hf : Ie.sameRow f e r s = some (ok, e')) : ∃ d', Dg.sameRow f d r s = some (ok, d') ∧ R e' d' := by
 unfold Ie.sameRow at hf
 obtain ⟨p, hp, hf⟩ := Option.bind_eq_some_iff.1 hf
 obtain ⟨q, hq, hf⟩ := Option.bind_eq_some_iff.1 hf
 unfold Dg.sameRow
 rw [h.whole hp, h.whole hq]
 simp only [Option.bind_some]
 split at hf
 ·rename_i h0
  rw [if_pos h0]
  split at hf
  ·rename_i h1
   rw [if_pos h1]; obtain ⟨rfl, rfl⟩ := Prod.mk.inj (Option.some.inj hf); exact ⟨d, rfl, h⟩
  ·rename_i h1
   rw [if_neg h1]
   split at hf
   ·rename_i h2
    rw [if_pos h2]
    split at hf
    ·rename_i h3
     rw [if_pos h3]; obtain ⟨rfl, rfl⟩ := Prod.mk.inj (Option.some.inj hf); exact ⟨d, rfl, h⟩
    ·rename_i h3
     rw [if_neg h3]; obtain ⟨e2, he, hf⟩ := Option.map_eq_some_iff.1 hf; obtain ⟨rfl, rfl⟩ := Prod.mk.inj hf; obtain ⟨d2, h4, h5⟩ := h.stands he; exact ⟨d2, by rw [h4]; rfl, h5⟩
   ·rename_i h2
    rw [if_neg h2]
    split at hf
    ·rename_i h3
     rw [if_pos h3]
     split at hf
     ·rename_i h4
      rw [if_pos h4]; obtain ⟨rfl, rfl⟩ := Prod.mk.inj (Option.some.inj hf); exact ⟨d, rfl, h⟩
     ·rename_i h4
      rw [if_neg h4]; obtain ⟨e2, he, hf⟩ := Option.map_eq_some_iff.1 hf; obtain ⟨rfl, rfl⟩ := Prod.mk.inj hf; obtain ⟨d2, h5, h6⟩ := h.stands he; exact ⟨d2, by rw [h5]; rfl, h6⟩
    ·rename_i h3
     rw [if_neg h3, if_pos h.small]; obtain ⟨⟨x, e1⟩, hx, hf⟩ := Option.bind_eq_some_iff.1 hf; obtain ⟨e2, h4, hf⟩ := Option.bind_eq_some_iff.1 hf; obtain ⟨e3, h5, hf⟩ := Option.map_eq_some_iff.1 hf; obtain ⟨rfl, rfl⟩ := Prod.mk.inj hf; obtain ⟨rfl, k1⟩ := h.putRow hx; obtain ⟨d2, h6, k2⟩ := k1.stands h4; obtain ⟨d3, h7, k3⟩ := k2.stands h5; rw [h6]; simp only [Option.bind_some]; exact ⟨d3, by rw [h7]; rfl, k3⟩
 ·cases hf
theorem R.same {f : Nat} : ∀ {k : Nat} {e e' : E} {d : Dg.D} {m n : Int} {ok : Bool}, R e d → Ie.same f k e m n = some (ok, e') → ∃ d', Dg.same f k d m n = some (ok, d') ∧ R e' d'
 | 0, _, _, _, _, _, _, _, hf => by cases hf
 | k + 1, e, e', d, m, n, ok, h, hf => by
  unfold Ie.same at hf
  obtain ⟨m', hm, hf⟩ := Option.bind_eq_some_iff.1 hf
  obtain ⟨n', hn, hf⟩ := Option.bind_eq_some_iff.1 hf
  unfold Dg.same
  rw [h.find hm, h.find hn]
  simp only [Option.bind_some]
  split at hf
  ·rename_i h0
   rw [if_pos h0]; obtain ⟨rfl, rfl⟩ := Prod.mk.inj (Option.some.inj hf); exact ⟨d, rfl, h⟩
  ·rename_i h0
   rw [if_neg h0]; obtain ⟨xm, hxm, hf⟩ := Option.bind_eq_some_iff.1 hf; obtain ⟨im, _, _, km, am, bm, rm, _⟩ := h.at hxm; rw [km]; simp only [Option.bind_some]
   split at hf
   ·rename_i h1
    rw [if_pos h1]; obtain ⟨e1, he, hf⟩ := Option.map_eq_some_iff.1 hf; obtain ⟨rfl, rfl⟩ := Prod.mk.inj hf; exact ⟨_, rfl, h.lnk he⟩
   ·rename_i h1
    rw [if_neg h1]; obtain ⟨xn, hxn, hf⟩ := Option.bind_eq_some_iff.1 hf; obtain ⟨jn, _, _, kn, an, bn, rn, _⟩ := h.at hxn; rw [kn]; simp only [Option.bind_some]
    split at hf
    ·rename_i h2
     rw [if_pos h2]; obtain ⟨e1, he, hf⟩ := Option.map_eq_some_iff.1 hf; obtain ⟨rfl, rfl⟩ := Prod.mk.inj hf; exact ⟨_, rfl, h.lnk he⟩
    ·rename_i h2
     rw [if_neg h2]
     split at hf
     ·rename_i h3
      rw [if_pos h3]; obtain ⟨rfl, rfl⟩ := Prod.mk.inj (Option.some.inj hf); exact ⟨d, rfl, h⟩
     ·rename_i h3
      rw [if_neg h3, am, an, bm, bn, rm, rn]; simp only [Option.bind_some]; obtain ⟨e1, he1, hf⟩ := Option.bind_eq_some_iff.1 hf; have h1 := h.lnk he1; obtain ⟨⟨o1, e2⟩, hp, hf⟩ := Option.bind_eq_some_iff.1 hf; rw [cond_nat] at hp
      obtain ⟨d2, g2, h2⟩ : ∃ d2, (if 0 ≤ xm.a then Dg.same f k (d.lnk m'.toNat n') xm.a xn.a else some (true, d.lnk m'.toNat n')) = some (o1, d2) ∧ R e2 d2 := by
       split at hp
       ·rename_i h4; rw [if_pos h4]; exact R.same h1 hp
       ·rename_i h4
        rw [if_neg h4]; obtain ⟨rfl, rfl⟩ := Prod.mk.inj (Option.some.inj hp); exact ⟨_, rfl, h1⟩
      rw [g2]; simp only [Option.bind_some]
      split at hf
      ·rename_i h5
       rw [if_pos h5]; obtain ⟨rfl, rfl⟩ := Prod.mk.inj (Option.some.inj hf); exact ⟨_, rfl, h2⟩
      ·rename_i h5
       rw [if_neg h5]; obtain ⟨⟨o2, e3⟩, hq, hf⟩ := Option.bind_eq_some_iff.1 hf; rw [cond_nat] at hq
       obtain ⟨d3, g3, h3⟩ : ∃ d3, (if 0 ≤ xm.b then Dg.same f k d2 xm.b xn.b else some (true, d2)) = some (o2, d3) ∧ R e3 d3 := by
        split at hq
        ·rename_i h4; rw [if_pos h4]; exact R.same h2 hq
        ·rename_i h4
         rw [if_neg h4]; obtain ⟨rfl, rfl⟩ := Prod.mk.inj (Option.some.inj hq); exact ⟨_, rfl, h2⟩
       rw [g3]; simp only [Option.bind_some]
       split at hf
       ·rename_i h6
        rw [if_pos h6]; obtain ⟨rfl, rfl⟩ := Prod.mk.inj (Option.some.inj hf); exact ⟨_, rfl, h3⟩
       ·rename_i h6
        rw [if_neg h6]
        split at hf
        ·rename_i h7; rw [if_pos h7]; exact h3.sameRow hf
        ·rename_i h7
         rw [if_neg h7]; obtain ⟨rfl, rfl⟩ := Prod.mk.inj (Option.some.inj hf); exact ⟨_, rfl, h3⟩
theorem R.round {e : E} {d : Dg.D} (h : R e d) {f : Nat} : ∀ {k : Nat} {n : Int} {s : List (Int × Int)} {p : Bool × List (Int × Int)}, Ie.round f k e n s = some p → Dg.round f k d n s = some p
 | 0, _, _, _, hf => by cases hf
 | k + 1, n, s, p, hf => by
  unfold Ie.round at hf
  obtain ⟨n', hn, hf⟩ := Option.bind_eq_some_iff.1 hf
  unfold Dg.round
  rw [h.find hn]
  simp only [Option.bind_some]
  split at hf
  ·rename_i h0; rw [if_pos h0]; exact hf
  ·rename_i h0
   rw [if_neg h0]; obtain ⟨x, hx, hf⟩ := Option.bind_eq_some_iff.1 hf; obtain ⟨_, _, _, kx, ax, bx, rx, _⟩ := h.at hx; rw [ax, bx]; simp only [Option.bind_some]; obtain ⟨u, hu, hf⟩ := Option.bind_eq_some_iff.1 hf; rw [cond_nat] at hu
   have g1 : (if 0 ≤ x.a then Dg.round f k d x.a (Dg.mput n' 1 s) else some (false, Dg.mput n' 1 s)) = some u := by
    split at hu
    ·rename_i h4; rw [if_pos h4]; exact h.round hu
    ·rename_i h4; rw [if_neg h4]; exact hu
   rw [g1]; simp only [Option.bind_some]
   split at hf
   ·rename_i h5; rw [if_pos h5]; exact hf
   ·rename_i h5
    rw [if_neg h5]; obtain ⟨v, hv, hf⟩ := Option.bind_eq_some_iff.1 hf; rw [cond_nat] at hv
    have g2 : (if 0 ≤ x.b then Dg.round f k d x.b u.2 else some (false, u.2)) = some v := by
     split at hv
     ·rename_i h4; rw [if_pos h4]; exact h.round hv
     ·rename_i h4; rw [if_neg h4]; exact hv
    rw [g2]; exact hf
theorem R.parts {e : E} {d : Dg.D} (h : R e d) {f : Nat} : ∀ {k : Nat} {n : Int} {s : List (Int × Int)} {p : Int × List (Int × Int)}, Ie.parts f k e n s = some p → Dg.parts f k d n s = some p
 | 0, _, _, _, hf => by cases hf
 | k + 1, n, s, p, hf => by
  unfold Ie.parts at hf
  obtain ⟨n', hn, hf⟩ := Option.bind_eq_some_iff.1 hf
  unfold Dg.parts
  rw [h.find hn]
  simp only [Option.bind_some]
  split at hf
  ·rename_i h0; rw [if_pos h0]; exact hf
  ·rename_i h0
   rw [if_neg h0]; obtain ⟨x, hx, hf⟩ := Option.bind_eq_some_iff.1 hf; obtain ⟨_, _, _, kx, ax, bx, rx, _⟩ := h.at hx; rw [ax, bx, kx]; simp only [Option.bind_some]; obtain ⟨u, hu, hf⟩ := Option.bind_eq_some_iff.1 hf; rw [cond_nat] at hu
   have g1 : (if 0 ≤ x.a then Dg.parts f k d x.a s else some (0, s)) = some u := by
    split at hu
    ·rename_i h4; rw [if_pos h4]; exact h.parts hu
    ·rename_i h4; rw [if_neg h4]; exact hu
   rw [g1]; simp only [Option.bind_some]; obtain ⟨v, hv, hf⟩ := Option.bind_eq_some_iff.1 hf; rw [cond_nat] at hv
   have g2 : (if 0 ≤ x.b then Dg.parts f k d x.b u.2 else some (0, u.2)) = some v := by
    split at hv
    ·rename_i h4; rw [if_pos h4]; exact h.parts hv
    ·rename_i h4; rw [if_neg h4]; exact hv
   rw [g2]; simp only [Option.bind_some]; obtain ⟨y, hy, hf⟩ := Option.bind_eq_some_iff.1 hf
   have g3 : Dg.rowLen f d x.k n' = some y := by
    unfold Ie.rowLen at hy; unfold Dg.rowLen
    split at hy
    ·rename_i h4
     rw [if_pos h4, rx]; obtain ⟨w, hw, hy⟩ := Option.bind_eq_some_iff.1 hy; simp only [Option.bind_some]; rw [h.whole hw]; exact hy
    ·rename_i h4; rw [if_neg h4]; exact hy
   rw [g3]; exact hf
theorem R.told {e : E} {d : Dg.D} (h : R e d) {f : Nat} : ∀ {k : Nat} {n : Int} {N : Dg.NM} {p : Ty.P × Dg.NM}, Ie.told f k e n N = some p → Dg.told f k d n N = some p
 | 0, _, _, _, hf => by cases hf
 | k + 1, n, N, p, hf => by
  unfold Ie.told at hf
  obtain ⟨n', hn, hf⟩ := Option.bind_eq_some_iff.1 hf
  obtain ⟨x, hx, hf⟩ := Option.bind_eq_some_iff.1 hf
  obtain ⟨_, _, _, kx, ax, bx, rx, _⟩ := h.at hx
  unfold Dg.told
  rw [h.find hn]
  simp only [Option.bind_some]
  rw [kx, ax, bx]
  simp only [Option.bind_some]
  split at hf
  ·rename_i h0; rw [if_pos h0]; exact hf
  ·rename_i h0
   rw [if_neg h0]
   split at hf
   ·rename_i h1; rw [if_pos h1]; exact hf
   ·rename_i h1
    rw [if_neg h1]
    split at hf
    ·rename_i h2; rw [if_pos h2]; exact hf
    ·rename_i h2
     rw [if_neg h2]
     split at hf
     ·rename_i h3; rw [if_pos h3]; exact hf
     ·rename_i h3
      rw [if_neg h3]
      split at hf
      ·rename_i h4
       rw [if_pos h4]; obtain ⟨y, hy, hf⟩ := Option.bind_eq_some_iff.1 hf; rw [h.told hy]; exact hf
      ·rename_i h4
       rw [if_neg h4]
       split at hf
       ·rename_i h5
        rw [if_pos h5]; obtain ⟨y, hy, hf⟩ := Option.bind_eq_some_iff.1 hf; obtain ⟨z, hz, hf⟩ := Option.bind_eq_some_iff.1 hf; rw [h.told hy]; simp only [Option.bind_some]; rw [h.told hz]; exact hf
       ·rename_i h5
        rw [if_neg h5]
        split at hf
        ·rename_i h6
         rw [if_pos h6]; obtain ⟨y, hy, hf⟩ := Option.bind_eq_some_iff.1 hf; obtain ⟨w, hw, hf⟩ := Option.bind_eq_some_iff.1 hf; obtain ⟨q, hq, hf⟩ := Option.bind_eq_some_iff.1 hf; obtain ⟨z, hz, hf⟩ := Option.bind_eq_some_iff.1 hf; rw [h.told hy]; simp only [Option.bind_some]; rw [rx]; simp only [Option.bind_some]; rw [h.whole hw]; simp only [Option.bind_some]; have g : Dg.rowNum w.2 y.2.2 = some q := hq; rw [g]; simp only [Option.bind_some]; rw [h.told hz]; exact hf
        ·cases hf
theorem R.of : ∀ {t : Ty.P} {e e' : E} {d : Dg.D} {n : Int}, R e d → Ie.of t e = some (n, e') → n = (Dg.of t d).1 ∧ R e' (Dg.of t d).2
 | .var _, _, _, _, _, _, hf => by cases hf
 | .int, _, _, _, _, h, hf => h.put hf
 | .bool, _, _, _, _, h, hf => h.put hf
 | .unit, _, _, _, _, h, hf => h.put hf
 | .list a, e, e', d, n, h, hf => by
  obtain ⟨x, hx, hf⟩ := Option.bind_eq_some_iff.1 hf
  obtain ⟨h1, h2⟩ := R.of h hx
  rw [h1] at hf
  exact h2.put hf
 | .pair a b, e, e', d, n, h, hf => by
  obtain ⟨x, hx, hf⟩ := Option.bind_eq_some_iff.1 hf
  obtain ⟨y, hy, hf⟩ := Option.bind_eq_some_iff.1 hf
  obtain ⟨h1, h2⟩ := R.of h hx
  obtain ⟨h3, h4⟩ := R.of h2 hy
  rw [h1, h3] at hf
  exact h4.put hf
 | .fn a b o 0, e, e', d, n, h, hf => by
  obtain ⟨x, hx, hf⟩ := Option.bind_eq_some_iff.1 hf
  obtain ⟨y, hy, hf⟩ := Option.bind_eq_some_iff.1 hf
  obtain ⟨z, hz, hf⟩ := Option.bind_eq_some_iff.1 hf
  obtain ⟨h1, h2⟩ := R.of h hx
  obtain ⟨h3, h4⟩ := R.of h2 hy
  obtain ⟨h5, h6⟩ := h4.putRow hz
  rw [h1, h3, h5] at hf
  exact h6.put hf
 | .fn _ _ _ (_ + 1), _, _, _, _, _, hf => by cases hf
theorem R.start : R E.new Dg.empty := by
 constructor <;> try rfl
 ·exact Nat.zero_le _
 ·decide
 ·intro i hi; exact absurd hi (Nat.not_lt_zero i)
 ·intro i hi
  have : i = 0 := Nat.lt_one_iff.1 hi
  subst this
  exact ⟨_, Tri.get_set _ _ _ _, rfl, rfl⟩
end Ie
end Go.Proofs.Ytejciampbnfbhaa
