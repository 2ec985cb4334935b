/-
  The tokens that the program says, with blanks between them, are what the document writes.
  Trees that may have been read may be walked.
  Trees that may have been read are well made.
  How many tokens the program says of a tree that may have been read, and how long they are.
-/
import Derived.Test.YtoajnlhegallpaaGreatDoorMPu
import Derived.Test.YtoajnlhegallpaaGreatDoorMSd
import Derived.Test.YtoajnlhegallpaaGreatDoorMBa
set_option linter.unusedVariables false
set_option linter.unusedSimpArgs false
set_option maxHeartbeats 4000000
namespace Go.Proofs.YtoajnlhegallpaaGreatDoor
open Go.RowKit
open Sy (Tr)

def jn (l : List (List UInt8)) : List UInt8 := Lib.join l [32]
theorem jn_nil : jn [] = [] := rfl
theorem jn_one (x : List UInt8) : jn [x] = x := Lib.join_one x [32]
theorem jn_cons (x : List UInt8) (l : List (List UInt8)) (h : l ≠ []) : jn (x :: l) = x ++ [32] ++ jn l := by
 cases l with
 | nil => exact absurd rfl h
 | cons y r => simp [jn, Lib.join, List.intercalate]

open Sy (Tr)

theorem sum_le_nodesL (f : Tr → Nat) : ∀ (l : List Tr), (∀ q ∈ l, f q ≤ nodes q) → (l.map f).sum ≤ nodesL l := by
 intro l
 induction l with
 | nil => intro _; simp [nodesL]
 | cons t r ih =>
  intro h
  have h1 := h t (by simp)
  have h2 := ih (fun q hq => h q (by simp [hq]))
  simp only [List.map_cons, List.sum_cons, nodesL]
  omega
theorem cnt_le : ∀ (n : Nat) (t : Tr), cnt n t ≤ nodes t := by
 intro n
 induction n with
 | zero => intro t; simp [cnt]
 | succ n ih =>
  intro t
  obtain ⟨k, p, x, m, l⟩ := t
  have h := sum_le_nodesL (cnt n) l (fun q _ => ih q)
  show 1 + (l.map (cnt n)).sum ≤ nodes (.mk k p x m l)
  rw [nodes]
  omega
theorem nice_sK {k p : Nat} {x : List UInt8} {m : Int} {l : List Tr} (h : cond k x m l) : sK (.mk k p x m l) := by
 rcases h with ⟨h, rfl⟩ | ⟨rfl, rfl, _⟩ | ⟨h, a, rfl, _⟩ | ⟨rfl, a, rfl, _⟩ | ⟨h, a, b, rfl, _⟩ | ⟨h, a, b, rfl, _⟩ | ⟨rfl, rfl, f, b, rfl, hf, _⟩ | ⟨rfl, a, b, c, rfl, _⟩ | ⟨rfl, a, b, c, d, e, rfl, _⟩ | ⟨rfl, a, r, cs, rfl, _, hr, hcs⟩ | ⟨rfl, a, b, c, rfl, _⟩ | ⟨rfl, a, b, ns, rfl, _, _, hns⟩ | ⟨rfl, f, rfl, hf⟩ | ⟨rfl, ops, defs, mn, rfl, hm, ho, hd, _⟩
 ·exact .inl ⟨rfl, by show k = 3 ∨ k = 4 ∨ k = 5 ∨ k = 6 ∨ k = 15 ∨ k = 23 ∨ k = 24 ∨ k = 25 ∨ k = 26; omega⟩
 ·exact .inl ⟨rfl, .inl rfl⟩
 ·exact .inr (.inl ⟨rfl, by show k = 7 ∨ k = 13 ∨ k = 14 ∨ k = 19 ∨ k = 21 ∨ k = 27; omega⟩)
 ·exact .inr (.inl ⟨rfl, by simp [Tr.kind]⟩)
 ·rcases h with rfl | ⟨rfl, hm⟩ | rfl | rfl | rfl | ⟨rfl, _⟩
  ·exact .inr (.inr (.inl ⟨rfl, by simp [Tr.kind]⟩))
  ·exact .inr (.inr (.inr (.inr (.inr (.inr (.inl ⟨rfl, rfl, hm⟩))))))
  ·exact .inr (.inr (.inl ⟨rfl, by simp [Tr.kind]⟩))
  ·exact .inr (.inr (.inl ⟨rfl, by simp [Tr.kind]⟩))
  ·exact .inr (.inr (.inl ⟨rfl, by simp [Tr.kind]⟩))
  ·exact .inr (.inr (.inl ⟨rfl, by simp [Tr.kind]⟩))
 ·exact .inr (.inr (.inl ⟨rfl, by show k = 1 ∨ k = 8 ∨ k = 10 ∨ k = 12 ∨ k = 16 ∨ k = 18 ∨ k = 28; omega⟩))
 ·exact .inr (.inr (.inr (.inr (.inr (.inr (.inr (.inl ⟨rfl, rfl, f, b, rfl, hf⟩)))))))
 ·exact .inr (.inr (.inr (.inl ⟨rfl, .inl rfl⟩)))
 ·exact .inr (.inr (.inr (.inr (.inl ⟨rfl, rfl⟩))))
 ·exact .inr (.inr (.inr (.inr (.inr (.inr (.inr (.inr (.inl ⟨rfl, a, r, cs, rfl, hr, hcs⟩))))))))
 ·exact .inr (.inr (.inr (.inl ⟨rfl, .inr rfl⟩)))
 ·exact .inr (.inr (.inr (.inr (.inr (.inr (.inr (.inr (.inr (.inl ⟨rfl, a, b, ns, rfl, hns⟩)))))))))
 ·exact .inr (.inr (.inr (.inr (.inr (.inl ⟨rfl, f, rfl, hf⟩)))))
 ·exact .inr (.inr (.inr (.inr (.inr (.inr (.inr (.inr (.inr (.inr ⟨rfl, ops, defs, mn, rfl, hm, ho, hd⟩)))))))))
theorem nice_snd : ∀ (n : Nat) (t : Tr), Nice t → nodes t ≤ 90000 → high t ≤ n → Snd n t := by
 intro n
 induction n with
 | zero => intro t _ _ h; have := high_pos t; omega
 | succ n ih =>
  intro t h hn hh
  obtain ⟨k, p, x, m, l⟩ := t
  rw [Nice] at h
  rw [nodes] at hn
  rw [high] at hh
  obtain ⟨hx, hc, hl⟩ := h
  refine ⟨hx, ?_, nice_sK hc, fun q hq => ?_⟩
  ·show l.length ≤ 90000
   have := nodesL_len l
   omega
  ·have h1 := nodesL_mem l q hq
   have h2 := highL_mem l q hq
   exact ih q (niceL_mem l hl q hq) (by omega) (by omega)

open Sy (Tr)

theorem nice_wp : ∀ (n : Nat) (t : Tr), Nice t → nodes t ≤ 90000 → high t ≤ n → (isE t ∨ isT t ∨ t.kind = 0) → Wp n t := by
 intro n
 induction n with
 | zero => intro t _ _ h; have := high_pos t; omega
 | succ n ih =>
  intro t h hn hh hs
  obtain ⟨k, p, x, m, l⟩ := t
  rw [Nice] at h
  rw [nodes] at hn
  rw [high] at hh
  obtain ⟨hx, hc, hl⟩ := h
  have hll := nodesL_len l
  have hlen : l.length ≤ 90000 := by omega
  clear hll
  have hE : ∀ q ∈ l, isE q → Wp n q := fun q hq he => by
   have h1 := nodesL_mem l q hq
   have h2 := highL_mem l q hq
   exact ih q (niceL_mem l hl q hq) (by omega) (by omega) (.inl he)
  have hT : ∀ q ∈ l, isT q → Wp n q := fun q hq he => by
   have h1 := nodesL_mem l q hq
   have h2 := highL_mem l q hq
   exact ih q (niceL_mem l hl q hq) (by omega) (by omega) (.inr (.inl he))
  -- the kid of a kid
  have hK : ∀ q ∈ l, ∀ a, (q.kids = [a] ∨ (∃ y z, q.kids = [y, z, a]) ∨ (∃ y, q.kids = [a, y]) ∨ ∃ y, q.kids = [y, a]) → (isE a ∨ isT a) → Wp n a := by
   intro q hq a ha hs
   obtain ⟨k2, p2, x2, m2, l2⟩ := q
   have hq1 := niceL_mem l hl _ hq
   have h1 := nodesL_mem l _ hq
   have h2 := highL_mem l _ hq
   rw [Nice] at hq1
   rw [nodes] at h1
   rw [high] at h2
   have hm : a ∈ l2 := by
    rcases ha with ha | ⟨y, z, ha⟩ | ⟨y, ha⟩ | ⟨y, ha⟩
    all_goals (replace ha : l2 = _ := ha; rw [ha]; simp)
   have h3 := nodesL_mem l2 a hm
   have h4 := highL_mem l2 a hm
   exact ih a (niceL_mem l2 hq1.2.2 a hm) (by omega) (by omega) (by rcases hs with hs | hs; exact .inl hs; exact .inr (.inl hs))
  have hF : ∀ q ∈ l, cond q.kind q.name q.num q.kids ∧ q.name.length ≤ 20 := by
   intro q hq
   have hq1 := niceL_mem l hl _ hq
   obtain ⟨k2, p2, x2, m2, l2⟩ := q
   rw [Nice] at hq1
   exact ⟨hq1.2.1, hq1.1⟩
  have hF7 : ∀ q ∈ l, q.kind = 7 ∨ q.kind = 21 → ∃ a, q.kids = [a] ∧ isE a := by
   intro q hq h7
   have h := (hF q hq).1
   generalize q.kind = k2 at h h7
   generalize q.name = x2 at h
   generalize q.num = m2 at h
   rcases h with ⟨h, _⟩ | ⟨h, _⟩ | ⟨h, a, e, ha⟩ | ⟨h, _⟩ | ⟨h, _⟩ | ⟨h, _⟩ | ⟨h, _⟩ | ⟨h, _⟩ | ⟨h, _⟩ | ⟨h, _⟩ | ⟨h, _⟩ | ⟨h, _⟩ | ⟨h, _⟩ | ⟨h, _⟩
   ·omega
   ·omega
   ·exact ⟨a, e, ha⟩
   all_goals omega
  have hF22 : ∀ q ∈ l, q.kind = 22 → ∃ a b c, q.kids = [a, b, c] ∧ isE c := by
   intro q hq h7
   have h := (hF q hq).1
   generalize q.kind = k2 at h h7
   generalize q.name = x2 at h
   generalize q.num = m2 at h
   rcases h with ⟨h, _⟩ | ⟨h, _⟩ | ⟨h, _⟩ | ⟨h, _⟩ | ⟨h, _⟩ | ⟨h, _⟩ | ⟨h, _⟩ | ⟨h, _⟩ | ⟨h, _⟩ | ⟨h, _⟩ | ⟨h, a, b, c, e, ha⟩ | ⟨h, _⟩ | ⟨h, _⟩ | ⟨h, _⟩
   iterate 10 omega
   ·exact ⟨a, b, c, e, ha⟩
   all_goals omega
  have hF1 : ∀ q ∈ l, q.kind = 1 → ∃ a b, q.kids = [a, b] ∧ isT a ∧ isT b := by
   intro q hq h7
   have h := (hF q hq).1
   generalize q.kind = k2 at h h7
   generalize q.name = x2 at h
   generalize q.num = m2 at h
   rcases h with ⟨h, _⟩ | ⟨h, _⟩ | ⟨h, _⟩ | ⟨h, _⟩ | ⟨h, _⟩ | ⟨h, a, b, e, ha⟩ | ⟨h, _⟩ | ⟨h, _⟩ | ⟨h, _⟩ | ⟨h, _⟩ | ⟨h, _⟩ | ⟨h, _⟩ | ⟨h, _⟩ | ⟨h, _⟩
   iterate 5 omega
   ·exact ⟨a, b, e, ha⟩
   all_goals omega
  have hF2 : ∀ q ∈ l, q.kind = 2 → ∃ f, q.kids = [f] ∧ f.kind = 7 := by
   intro q hq h7
   have h := (hF q hq).1
   generalize q.kind = k2 at h h7
   generalize q.name = x2 at h
   generalize q.num = m2 at h
   rcases h with ⟨h, _⟩ | ⟨h, _⟩ | ⟨h, _⟩ | ⟨h, _⟩ | ⟨h, _⟩ | ⟨h, _⟩ | ⟨h, _⟩ | ⟨h, _⟩ | ⟨h, _⟩ | ⟨h, _⟩ | ⟨h, _⟩ | ⟨h, _⟩ | ⟨h, f, e, ha⟩ | ⟨h, _⟩
   iterate 12 omega
   ·exact ⟨f, e, ha⟩
   all_goals omega
  replace hs : (3 ≤ k ∧ k ≤ 20) ∨ (24 ≤ k ∧ k ≤ 29) ∨ k = 0 := hs
  refine ⟨by show x.length ≤ 1000000; omega, ?_⟩
  rcases hc with ⟨h, rfl⟩ | ⟨rfl, rfl, hm⟩ | ⟨h, a, rfl, ha⟩ | ⟨rfl, a, rfl, ha⟩ | ⟨h, a, b, rfl, ha, hb⟩ | ⟨h, a, b, rfl, ha, hb⟩ | ⟨rfl, rfl, f, b, rfl, hf, hb⟩ | ⟨rfl, a, b, c, rfl, ha, hb, hc⟩ | ⟨rfl, a, b, c, d, e, rfl, ha, hb, he⟩ | ⟨rfl, a, r, cs, rfl, ha, hr, hcs⟩ | ⟨rfl, a, b, c, rfl, _⟩ | ⟨rfl, a, b, ns, rfl, ha, hb, hns⟩ | ⟨rfl, f, rfl, hf⟩ | ⟨rfl, ops, defs, mn, rfl, hm, ho, hd, hmn⟩
  ·exact .inl ⟨rfl, by show k = 4 ∨ k = 5 ∨ k = 6 ∨ k = 23 ∨ k = 15 ∨ k = 24 ∨ k = 25 ∨ k = 26; omega⟩
  ·exact .inr (.inl ⟨rfl, rfl, hm⟩)
  ·refine .inr (.inr (.inl ⟨by show k = 7 ∨ k = 13 ∨ k = 14 ∨ k = 19 ∨ k = 27; omega, a, rfl, .inr (by have := ha.2; omega), hE a (by simp) ha⟩))
  ·exact .inr (.inr (.inl ⟨by simp [Tr.kind], a, rfl, .inl rfl, hT a (by simp) ha⟩))
  ·refine .inr (.inr (.inr (.inl ⟨?_, a, b, rfl, .inr ⟨by have := ha.2; omega, by have := hb.2; omega⟩, hE a (by simp) ha, hE b (by simp) hb⟩)))
   show k = 8 ∨ (k = 9 ∧ m ≠ 1) ∨ k = 10 ∨ k = 12 ∨ k = 16 ∨ (k = 18 ∧ fiveS x) ∨ k = 28
   rcases h with h | h | h | h | h | h
   ·exact .inl h
   ·exact .inr (.inl h)
   ·exact .inr (.inr (.inl h))
   ·exact .inr (.inr (.inr (.inl h)))
   ·exact .inr (.inr (.inr (.inr (.inl h))))
   ·exact .inr (.inr (.inr (.inr (.inr (.inl h)))))
  ·have h28 : k = 28 := by omega
   subst h28
   exact .inr (.inr (.inr (.inl ⟨by simp [Tr.kind], a, b, rfl, .inl rfl, hT a (by simp) ha, hT b (by simp) hb⟩)))
  ·obtain ⟨a, hfa, ha⟩ := hF7 f (by simp) (.inl hf)
   exact .inr (.inr (.inr (.inr (.inl ⟨rfl, rfl, f, a, b, rfl, hf, hfa, hK f (by simp) a (.inl hfa) (.inl ha), hE b (by simp) hb⟩))))
  ·exact .inr (.inr (.inr (.inr (.inr (.inl ⟨rfl, a, b, c, rfl, hE a (by simp) ha, hE b (by simp) hb, hE c (by simp) hc⟩)))))
  ·have h1 := (hF c (by simp)).2
   have h2 := (hF d (by simp)).2
   exact .inr (.inr (.inr (.inr (.inr (.inr (.inl ⟨rfl, a, b, c, d, e, rfl, by omega, by omega, hE a (by simp) ha, hE b (by simp) hb, hE e (by simp) he⟩))))))
  ·obtain ⟨e, hre, he⟩ := hF7 r (by simp) (.inr hr)
   exact .inr (.inr (.inr (.inr (.inr (.inr (.inr (.inl ⟨rfl, hlen, a, r, e, cs, rfl, hr, hre, hE a (by simp) ha, hK r (by simp) e (.inl hre) (.inl he), fun q hq => by
    obtain ⟨y1, y2, z, hz, hez⟩ := hF22 q (by simp [hq]) (hcs q hq)
    exact ⟨hcs q hq, y1, y2, z, hz, hK q (by simp [hq]) z (.inr (.inl ⟨y1, y2, hz⟩)) (.inl hez)⟩⟩)))))))
  ·exfalso; omega
  ·exact .inr (.inr (.inr (.inr (.inr (.inr (.inr (.inr (.inl ⟨rfl, hlen, a, b, ns, rfl, hT a (by simp) ha, hT b (by simp) hb⟩))))))))
  ·exfalso; omega
  ·refine .inr (.inr (.inr (.inr (.inr (.inr (.inr (.inr (.inr ⟨rfl, hlen, ops ++ defs, mn, rfl, by have := hmn.1; omega, by have := hmn.1; omega, hE mn (by simp) hmn, ?_⟩))))))))
   intro q hq
   rcases List.mem_append.1 hq with hq | hq
   ·obtain ⟨a, b, hab, ha, hb⟩ := hF1 q (by simp [hq]) (ho q hq)
    exact .inl ⟨ho q hq, a, b, hab, hK q (by simp [hq]) a (.inr (.inr (.inl ⟨b, hab⟩))) (.inr ha), hK q (by simp [hq]) b (.inr (.inr (.inr ⟨a, hab⟩))) (.inr hb)⟩
   ·obtain ⟨f, hqf, hf⟩ := hF2 q (by simp [hq]) (hd q hq)
    obtain ⟨a, hfa, ha⟩ : ∃ a, f.kids = [a] ∧ (isE a ∧ Wp n a) := by
     obtain ⟨k2, p2, x2, m2, l2⟩ := q
     replace hqf : l2 = [f] := hqf
     subst hqf
     have hq1 := niceL_mem _ hl _ (by simp [hq] : Tr.mk k2 p2 x2 m2 [f] ∈ _)
     have h1 := nodesL_mem (ops ++ defs ++ [mn]) (.mk k2 p2 x2 m2 [f]) (by simp [hq])
     have h2 := highL_mem (ops ++ defs ++ [mn]) (.mk k2 p2 x2 m2 [f]) (by simp [hq])
     rw [Nice] at hq1
     rw [nodes, nodesL, nodesL] at h1
     rw [high, highL, highL] at h2
     have hfn : Nice f := niceL_mem _ hq1.2.2 f (by simp)
     obtain ⟨k3, p3, x3, m3, l3⟩ := f
     replace hf : k3 = 7 := hf
     subst hf
     rw [Nice] at hfn
     rw [nodes] at h1
     rw [high] at h2
     have h := hfn.2.1
     have : ∃ a, l3 = [a] ∧ isE a := by
      rcases h with ⟨h, _⟩ | ⟨h, _⟩ | ⟨h, a, e, ha⟩ | ⟨h, _⟩ | ⟨h, _⟩ | ⟨h, _⟩ | ⟨h, _⟩ | ⟨h, _⟩ | ⟨h, _⟩ | ⟨h, _⟩ | ⟨h, _⟩ | ⟨h, _⟩ | ⟨h, _⟩ | ⟨h, _⟩
      ·omega
      ·omega
      ·exact ⟨a, e, ha⟩
      all_goals omega
     obtain ⟨a, rfl, ha⟩ := this
     have h3 := nodesL_mem [a] a (by simp)
     have h4 := highL_mem [a] a (by simp)
     exact ⟨a, rfl, ha, ih a (niceL_mem _ hfn.2.2 a (by simp)) (by omega) (by omega) (.inl ha)⟩
    exact .inr ⟨hd q hq, f, a, hqf, hf, hfa, ha.2⟩

open Sy (Tr)

def TB (l : List (List UInt8)) (c : Nat) : Prop := l.length ≤ c ∧ ∀ x ∈ l, x.length ≤ 20
theorem TB.nil : TB [] 0 := ⟨Nat.le_refl _, fun x hx => by cases hx⟩
theorem TB.cons {x : List UInt8} {l : List (List UInt8)} {c : Nat} (hx : x.length ≤ 20) (h : TB l c) : TB (x :: l) (c + 1) := by
 refine ⟨by have := h.1; simp only [List.length_cons]; omega, fun y hy => ?_⟩
 rcases List.mem_cons.1 hy with rfl | hy
 ·exact hx
 ·exact h.2 y hy
theorem TB.app {a b : List (List UInt8)} {c d : Nat} (ha : TB a c) (hb : TB b d) : TB (a ++ b) (c + d) := by
 refine ⟨by have := ha.1; have := hb.1; rw [List.length_append]; omega, fun y hy => ?_⟩
 rcases List.mem_append.1 hy with hy | hy
 ·exact ha.2 y hy
 ·exact hb.2 y hy
theorem TB.le {a : List (List UInt8)} {c d : Nat} (h : TB a c) (hcd : c ≤ d) : TB a d := ⟨Nat.le_trans h.1 hcd, h.2⟩
theorem TB.one {x : List UInt8} (hx : x.length ≤ 20) : TB [x] 1 := TB.cons hx TB.nil
theorem in_TB {f : Tr → List (List UInt8)} {a : Tr} {l : Int} (h : TB (f a) (12 * nodes a - 2)) : TB (inP f a l) (12 * nodes a) := by
 have hp := nodes_pos a
 unfold inP
 split
 ·exact h.le (by omega)
 ·exact ((TB.cons (by decide) h).app (TB.one (by decide))).le (by omega)
theorem flat_TB {f : Tr → List (List UInt8)} : ∀ (l : List Tr), (∀ q ∈ l, TB (f q) (12 * nodes q)) → TB (l.flatMap f) (12 * nodesL l) := by
 intro l
 induction l with
 | nil => intro _; exact TB.nil.le (by omega)
 | cons q l ih =>
  intro h
  rw [List.flatMap_cons, nodesL]
  exact ((h q (by simp)).app (ih (fun u hu => h u (by simp [hu])))).le (by omega)
theorem row_TB (ns : List Tr) (h : ∀ q ∈ ns, q.name.length ≤ 20) : TB (arrTk (ns.map Tr.name)) (2 * ns.length + 3) := by
 have hf : ∀ (r : List (List UInt8)), (∀ x ∈ r, x.length ≤ 20) → TB (r.flatMap fun y => [[44], y]) (2 * r.length) := by
  intro r
  induction r with
  | nil => intro _; exact TB.nil
  | cons y r ih =>
   intro h
   rw [List.flatMap_cons]
   exact ((TB.cons (by decide) (TB.one (h y (by simp)))).app (ih (fun u hu => h u (by simp [hu])))).le (by simp only [List.length_cons]; omega)
 have hm : ∀ x ∈ ns.map Tr.name, x.length ≤ 20 := by
  intro x hx
  obtain ⟨q, hq, rfl⟩ := List.mem_map.1 hx
  exact h q hq
 have hl : (ns.map Tr.name).length = ns.length := by simp
 generalize ns.map Tr.name = l at hm hl
 unfold arrTk
 cases l with
 | nil => exact (TB.nil.app (TB.one (by decide))).le (by omega)
 | cons x r =>
  rw [if_neg (by simp)]
  exact (((TB.cons (by decide) (TB.cons (by decide) (TB.cons (hm x (by simp)) (hf r (fun u hu => hm u (by simp [hu])))))).app (TB.one (by decide))).app (TB.one (by decide))).le (by simp only [List.length_cons] at hl; omega)
theorem dig20 (m : Int) (h : -9223372036854775807 ≤ m ∧ m ≤ 9223372036854775807) : TB (numTk m) 2 := by
 have hd : (Sy.dig m.natAbs).length ≤ 20 := Nat.le_trans (dig_small (by omega)) (by decide)
 unfold numTk
 split
 ·exact TB.cons (by decide) (TB.one hd)
 ·exact (TB.one hd).le (by omega)
theorem leaf_TB (k m : Int) (x : List UInt8) (hx : x.length ≤ 20) : TB (leafTk k m x) 2 := by
 unfold leafTk
 repeat' split
 all_goals first
  | exact (TB.one hx).le (by decide)
  | exact TB.cons (by decide) (TB.one (by decide))
  | exact (TB.one (by decide)).le (by decide)
  | exact (TB.one (by split <;> decide)).le (by decide)
theorem kid_name {l : List Tr} (h : NiceL l) {q : Tr} (hq : q ∈ l) : q.name.length ≤ 20 ∧ NiceL q.kids ∧ nodes q = 1 + nodesL q.kids := by
 have := niceL_mem l h q hq
 obtain ⟨k, p, x, m, kl⟩ := q
 rw [Nice] at this
 exact ⟨this.1, this.2.2, by rw [nodes]; rfl⟩
def LB (n : Nat) : Prop := ∀ (t : Tr), Wp n t → Nice t → TB (tk n t) (12 * nodes t - 2)
theorem tk_TB : ∀ n, LB n := by
 intro n
 induction n with
 | zero => intro t ht; exact ht.elim
 | succ n ih =>
  intro t ht hnc
  obtain ⟨k, p, x, m, kids⟩ := t
  obtain ⟨_, ht⟩ := ht
  rw [Nice] at hnc
  obtain ⟨hx, _, hnl⟩ := hnc
  rw [nodes]
  rcases ht with ⟨e1, ht⟩ | ⟨e1, e2, h1, h2⟩ | ⟨hkk, a, e1, hak, ha⟩ | ⟨hkk, a, b, e1, hak, ha, hb⟩ | ⟨e1, e2, f, a, b, e3, hf, hfa, ha, hb⟩ | ⟨e1, a, b, c, e2, ha, hb, hc⟩ | ⟨e1, a, b, c, d, e, e2, hc, hd, ha, hb, he⟩ | ⟨e1, hns, a, r, e, cs, e2, hr, hre, ha, he, hcs⟩ | ⟨e1, hns, a, b, ns, e2, ha, hb⟩ | ⟨e1, hns, its, mn, e2, hm1, hm2, hmn, hi⟩
  ·replace e1 : kids = [] := e1
   subst e1
   have e : tk (n + 1) (.mk k p x m []) = leafTk k m x := by
    replace ht : k = 4 ∨ k = 5 ∨ k = 6 ∨ k = 23 ∨ k = 15 ∨ k = 24 ∨ k = 25 ∨ k = 26 := ht
    rcases ht with rfl | rfl | rfl | rfl | rfl | rfl | rfl | rfl <;> rfl
   rw [e]
   exact (leaf_TB k m x hx).le (by omega)
  ·replace e1 : kids = [] := e1
   replace e2 : k = 3 := e2
   subst e1 e2
   exact (dig20 m ⟨h1, h2⟩).le (by omega)
  ·replace e1 : kids = [a] := e1
   subst e1
   replace hkk : k = 7 ∨ k = 13 ∨ k = 14 ∨ k = 19 ∨ k = 27 := hkk
   have A := ih a ha (niceL_mem _ hnl a (by simp))
   have hp := nodes_pos a
   simp only [nodesL]
   rcases hkk with rfl | rfl | rfl | rfl | rfl
   ·exact ((TB.cons (by decide) (TB.one hx)).app (TB.cons (by decide) A)).le (by omega)
   ·exact ((TB.one (by decide)).app (in_TB (l := 6) A)).le (by omega)
   ·exact ((TB.one (by decide)).app (in_TB (l := 6) A)).le (by omega)
   ·exact ((TB.cons (by decide) (TB.one hx)).app (in_TB (l := 6) A)).le (by omega)
   ·exact ((in_TB (l := 2) A).app (TB.one (by decide))).le (by omega)
  ·replace e1 : kids = [a, b] := e1
   subst e1
   replace hkk : k = 8 ∨ (k = 9 ∧ m ≠ 1) ∨ k = 10 ∨ k = 12 ∨ k = 16 ∨ (k = 18 ∧ (x = [43] ∨ x = [45] ∨ x = [42] ∨ x = [60] ∨ x = [61, 61])) ∨ k = 28 := hkk
   have A := ih a ha (niceL_mem _ hnl a (by simp))
   have B := ih b hb (niceL_mem _ hnl b (by simp))
   have hp := nodes_pos a
   have hq := nodes_pos b
   simp only [nodesL]
   rcases hkk with rfl | ⟨rfl, hm⟩ | rfl | rfl | rfl | ⟨rfl, hs⟩ | rfl
   ·have e : tk (n + 1) (.mk 8 p x m [a, b]) = (if a.kind = 8 then tk n a else inP (tk n) a 6) ++ inP (tk n) b 6 := rfl
    rw [e]
    split
    ·exact (A.app (in_TB (l := 6) B)).le (by omega)
    ·exact ((in_TB (l := 6) A).app (in_TB (l := 6) B)).le (by omega)
   ·have e : tk (n + 1) (.mk 9 p x m [a, b]) = ([[108, 101, 116]] ++ [x] ++ ([61] :: tk n a)) ++ ([105, 110] :: tk n b) := by
     have : tk (n + 1) (.mk 9 p x m [a, b]) = if m = 1 then ([[108, 101, 116]] ++ [[114, 101, 99]] ++ [x] ++ [a.name] ++ ([61] :: tk n (kid0 a))) ++ ([105, 110] :: tk n b) else ([[108, 101, 116]] ++ [x] ++ ([61] :: tk n a)) ++ ([105, 110] :: tk n b) := rfl
     rw [this, if_neg hm]
    rw [e]
    exact ((((TB.one (by decide)).app (TB.one hx)).app (TB.cons (by decide) A)).app (TB.cons (by decide) B)).le (by omega)
   ·exact (((in_TB (l := 1) A).app (TB.one (by decide))).app B).le (by omega)
   ·exact (((TB.cons (by decide) A).app (TB.cons (by decide) B)).app (TB.one (by decide))).le (by omega)
   ·exact (((in_TB (l := 3) A).app (TB.one (by decide))).app (in_TB (l := 2) B)).le (by omega)
   ·have e : tk (n + 1) (.mk 18 p x m [a, b]) = opTk x (tk n) a b := rfl
    rw [e]
    unfold opTk
    split
    ·exact (((in_TB A).app (TB.one hx)).app (in_TB B)).le (by omega)
    ·split
     ·exact (((in_TB A).app (TB.one hx)).app (in_TB B)).le (by omega)
     ·exact (((in_TB A).app (TB.one hx)).app (in_TB B)).le (by omega)
   ·exact (((in_TB (l := 2) A).app (TB.one (by decide))).app (in_TB (l := 1) B)).le (by omega)
  ·replace e1 : k = 9 := e1
   replace e2 : m = 1 := e2
   replace e3 : kids = [f, b] := e3
   subst e1 e2 e3
   obtain ⟨f1, f2, f3⟩ := kid_name hnl (q := f) (by simp)
   rw [hfa] at f2 f3
   have A := ih a ha (niceL_mem _ f2 a (by simp))
   have B := ih b hb (niceL_mem _ hnl b (by simp))
   have hp := nodes_pos a
   have hq := nodes_pos b
   simp only [nodesL] at f3 ⊢
   have hk0 : kid0 f = a := by simp [kid0, hfa]
   have e : tk (n + 1) (.mk 9 p x 1 [f, b]) = ([[108, 101, 116]] ++ [[114, 101, 99]] ++ [x] ++ [f.name] ++ ([61] :: tk n (kid0 f))) ++ ([105, 110] :: tk n b) := rfl
   rw [e, hk0]
   exact ((((((TB.one (by decide)).app (TB.one (by decide))).app (TB.one hx)).app (TB.one f1)).app (TB.cons (by decide) A)).app (TB.cons (by decide) B)).le (by omega)
  ·replace e1 : k = 11 := e1
   replace e2 : kids = [a, b, c] := e2
   subst e1 e2
   have A := ih a ha (niceL_mem _ hnl a (by simp))
   have B := ih b hb (niceL_mem _ hnl b (by simp))
   have C := ih c hc (niceL_mem _ hnl c (by simp))
   have := nodes_pos a
   have := nodes_pos b
   have := nodes_pos c
   simp only [nodesL]
   exact (((TB.cons (by decide) A).app (TB.cons (by decide) B)).app (TB.cons (by decide) C)).le (by omega)
  ·replace e1 : k = 17 := e1
   replace e2 : kids = [a, b, c, d, e] := e2
   subst e1 e2
   have A := ih a ha (niceL_mem _ hnl a (by simp))
   have B := ih b hb (niceL_mem _ hnl b (by simp))
   have C := ih e he (niceL_mem _ hnl e (by simp))
   obtain ⟨c1, _, _⟩ := kid_name hnl (q := c) (by simp)
   obtain ⟨d1, _, _⟩ := kid_name hnl (q := d) (by simp)
   have := nodes_pos a
   have := nodes_pos b
   have := nodes_pos c
   have := nodes_pos d
   have := nodes_pos e
   simp only [nodesL]
   have e3 : tk (n + 1) (.mk 17 p x m [a, b, c, d, e]) = ([99, 97, 115, 101] :: tk n a) ++ [[111, 102], [91], [93]] ++ ([61, 62] :: tk n b) ++ [[124], c.name, [58, 58], d.name] ++ ([61, 62] :: tk n e) ++ [[101, 110, 100]] := rfl
   rw [e3]
   exact ((((((TB.cons (by decide) A).app (TB.cons (by decide) (TB.cons (by decide) (TB.one (by decide))))).app (TB.cons (by decide) B)).app (TB.cons (by decide) (TB.cons c1 (TB.cons (by decide) (TB.one d1))))).app (TB.cons (by decide) C)).app (TB.one (by decide))).le (by omega)
  ·replace e1 : k = 20 := e1
   replace e2 : kids = a :: r :: cs := e2
   subst e1 e2
   obtain ⟨r1, r2, r3⟩ := kid_name hnl (q := r) (by simp)
   rw [hre] at r2 r3
   have A := ih a ha (niceL_mem _ hnl a (by simp))
   have B := ih e he (niceL_mem _ r2 e (by simp))
   have := nodes_pos a
   have := nodes_pos e
   simp only [nodesL] at r3 ⊢
   have hk0 : kid0 r = e := by simp [kid0, hre]
   have e3 : tk (n + 1) (.mk 20 p x m (a :: r :: cs)) = ((if m = 1 then [115, 104, 97, 108, 108, 111, 119] else [104, 97, 110, 100, 108, 101]) :: tk n a) ++ [[119, 105, 116, 104]] ++ ([123] :: ([[114, 101, 116, 117, 114, 110], r.name] ++ ([61, 62] :: tk n (kid0 r)))) ++ cs.flatMap (fun q => [124] :: clauseTk (tk n) q) ++ [[125]] := rfl
   rw [e3, hk0]
   have C : TB (cs.flatMap (fun q => [124] :: clauseTk (tk n) q)) (12 * nodesL cs) := by
    refine flat_TB cs fun q hq => ?_
    obtain ⟨_, y, u, w, hw, hww⟩ := hcs q hq
    obtain ⟨q1, q2, q3⟩ := kid_name hnl (q := q) (by simp [hq])
    rw [hw] at q2 q3
    obtain ⟨y1, _, _⟩ := kid_name q2 (q := y) (by simp)
    obtain ⟨u1, _, _⟩ := kid_name q2 (q := u) (by simp)
    have W := ih w hww (niceL_mem _ q2 w (by simp))
    have := nodes_pos y
    have := nodes_pos u
    have := nodes_pos w
    simp only [nodesL] at q3
    have ec : clauseTk (tk n) q = [q.name, y.name, u.name] ++ ([61, 62] :: tk n w) := by simp [clauseTk, hw]
    rw [ec]
    exact (TB.cons (by decide) ((TB.cons q1 (TB.cons y1 (TB.one u1))).app (TB.cons (by decide) W))).le (by omega)
   exact (((((TB.cons (by split <;> decide) A).app (TB.one (by decide))).app (TB.cons (by decide) ((TB.cons (by decide) (TB.one r1)).app (TB.cons (by decide) B)))).app C).app (TB.one (by decide))).le (by omega)
  ·replace e1 : k = 29 := e1
   replace e2 : kids = a :: b :: ns := e2
   subst e1 e2
   have A := ih a ha (niceL_mem _ hnl a (by simp))
   have B := ih b hb (niceL_mem _ hnl b (by simp))
   have := nodes_pos a
   have := nodes_pos b
   have hnn := nodesL_len ns
   simp only [nodesL]
   have e : tk (n + 1) (.mk 29 p x m (a :: b :: ns)) = inP (tk n) a 1 ++ arrTk (ns.map Tr.name) ++ tk n b := rfl
   rw [e]
   exact (((in_TB A).app (row_TB ns (fun q hq => (kid_name hnl (q := q) (by simp [hq])).1))).app B).le (by omega)
  ·replace e1 : k = 0 := e1
   replace e2 : kids = its ++ [mn] := e2
   subst e1 e2
   have M := ih mn hmn (niceL_mem _ hnl mn (by simp))
   have := nodes_pos mn
   rw [nodesL_append]
   simp only [nodesL]
   have e3 : tk (n + 1) (.mk 0 p x m (its ++ [mn])) = its.flatMap (itemTk (tk n)) ++ [[109, 97, 105, 110]] ++ ([61] :: tk n mn) := by
    have : tk (n + 1) (.mk 0 p x m (its ++ [mn])) = ((its ++ [mn]).dropLast).flatMap (itemTk (tk n)) ++ [[109, 97, 105, 110]] ++ ([61] :: tk n ((its ++ [mn]).getLastD Sy.zT)) := rfl
    rw [this]
    simp
   rw [e3]
   have I : TB (its.flatMap (itemTk (tk n))) (12 * nodesL its) := by
    refine flat_TB its fun q hq => ?_
    obtain ⟨q1, q2, q3⟩ := kid_name hnl (q := q) (by simp [hq])
    rcases hi q hq with ⟨h1, a, b, hab, ha, hb⟩ | ⟨h1, f, a, hf, _, hfa, ha⟩
    ·rw [hab] at q2 q3
     have A := ih a ha (niceL_mem _ q2 a (by simp))
     have B := ih b hb (niceL_mem _ q2 b (by simp))
     have := nodes_pos a
     have := nodes_pos b
     simp only [nodesL] at q3
     have ea : q.kids.getD 0 Sy.zT = a := by rw [hab]; rfl
     have eb : q.kids.getD 1 Sy.zT = b := by rw [hab]; rfl
     unfold itemTk
     rw [if_pos h1, ea, eb]
     exact (((((TB.one (by decide)).app (TB.one (by split <;> decide))).app (TB.one q1)).app (TB.cons (by decide) A)).app (TB.cons (by decide) B)).le (by omega)
    ·rw [hf] at q2 q3
     obtain ⟨f1, f2, f3⟩ := kid_name q2 (q := f) (by simp)
     rw [hfa] at f2 f3
     have A := ih a ha (niceL_mem _ f2 a (by simp))
     have := nodes_pos a
     simp only [nodesL] at q3 f3
     have ek : kid0 q = f := by simp [kid0, hf]
     have ea : kid0 (kid0 q) = a := by simp [kid0, hf, hfa]
     unfold itemTk
     rw [if_neg (by omega), ea, ek]
     split
     ·exact (((((TB.one (by decide)).app (TB.one (by decide))).app (TB.one q1)).app (TB.one f1)).app (TB.cons (by decide) A)).le (by omega)
     ·exact ((((TB.one (by decide)).app (TB.one q1)).app (TB.one f1)).app (TB.cons (by decide) A)).le (by omega)
   exact ((I.app (TB.one (by decide))).app (TB.cons (by decide) M)).le (by omega)
theorem jn_len : ∀ (l : List (List UInt8)), (∀ x ∈ l, x.length ≤ 20) → (jn l).length ≤ 21 * l.length := by
 intro l
 induction l with
 | nil => intro _; simp [jn_nil]
 | cons x r ih =>
  intro h
  have h1 := h x (by simp)
  have h2 := ih (fun u hu => h u (by simp [hu]))
  by_cases hr : r = []
  ·subst hr
   rw [jn_one]
   simp only [List.length_cons, List.length_nil]
   omega
  ·rw [jn_cons x r hr]
   simp only [List.length_append, List.length_cons, List.length_nil]
   omega
end Go.Proofs.YtoajnlhegallpaaGreatDoor
