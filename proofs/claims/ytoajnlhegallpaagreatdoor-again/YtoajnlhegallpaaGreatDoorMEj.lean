/-
  The statements' own Same: of two rows of kids that hold one tree it answers true.
  The statements' own Same, places left out: of two trees that differ in their places alone it answers true.
  The statements' own high: how many nodes stand within one another.
-/
import Derived.Test.YtoajnlhegallpaaGreatDoorMRef
import Derived.Test.YtoajnlhegallpaaGreatDoorMDl
import Derived.Test.YtoajnlhegallpaaGreatDoorMBa
import Derived.Test.YtoajnlhegallpaaGreatDoorMAg
set_option linter.unusedVariables false
set_option linter.unusedSimpArgs false
set_option maxRecDepth 100000
set_option maxHeartbeats 4000000
namespace Go.Proofs.YtoajnlhegallpaaGreatDoor
open Go.RowKit

theorem nodesL_get : ∀ (l : List Sy.Tr) (i : Nat) (h : i < l.length), nodes l[i] ≤ nodesL l := by
 intro l
 induction l with
 | nil => intro i h; simp at h
 | cons t r ih =>
  intro i h
  simp only [nodesL]
  cases i with
  | zero => simp
  | succ i =>
   have := ih i (by simpa using h)
   simp only [List.getElem_cons_succ]
   omega
theorem nodes_one (T : Sy.Tr) : 1 ≤ nodes T := by cases T; simp [nodes]
theorem nodes_kids (T : Sy.Tr) : nodes T = 1 + nodesL T.kids := by cases T; simp [nodes, Sy.Tr.kids]

theorem kids_at {w : World} {F : Nat → Prop} {a : Option Addr} {l c : Nat} {ks : List Sy.Tr} (h : Kids w F (.slice a l c) ks) (i : Nat) (hi : i < ks.length) :
  ∃ g a' l' c', a = some ⟨g, 0, none⟩ ∧ NodeAt w g (i * 5) ks[i] (.slice a' l' c') ∧ Kids w F (.slice a' l' c') ks[i].kids := by
 generalize hv : Value.slice a l c = v at h
 cases h with
 | nil => simp at hi
 | row g c kids vs hg h0 hc hcell hk =>
  simp only [Value.slice.injEq] at hv
  obtain ⟨a', c', he⟩ := (hk i hi).slice
  refine ⟨g, a', ks[i].kids.length, c', hv.1, ?_, ?_⟩
  ·rw [← he]; exact hcell i hi
  ·rw [← he]; exact hk i hi
theorem kids_len {w : World} {F : Nat → Prop} {a : Option Addr} {l c : Nat} {ks : List Sy.Tr} (h : Kids w F (.slice a l c) ks) : l = ks.length := by
 obtain ⟨a', c', he⟩ := h.slice
 simp only [Value.slice.injEq] at he
 exact he.2.1

structure Sw (w : World) (v1 v2 : List Value) (wr : World) : Prop where
 one : Blk wr w.heap.size v1
 two : Blk wr (w.heap.size + 1) v2
 below : Below w.heap.size w wr

def nodeL (T : Sy.Tr) (a : Option Addr) (l c : Nat) : List Value := [.int .i64 T.kind, .int .i64 T.pos, .string ⟨T.name.toArray⟩, .int .i64 T.num, .slice a l c]

theorem sw_new (w : World) (T : Sy.Tr) (a1 a2 : Option Addr) (l1 c1 l2 c2 : Nat) (t1 t2 : TypeId) : Sw w (nodeL T a1 l1 c1) (nodeL T a2 l2 c2)
  ((w.alloc (.cells #[.int .i64 T.kind, .int .i64 T.pos, .string ⟨T.name.toArray⟩, .int .i64 T.num, .slice a1 l1 c1] t1)).alloc (.cells #[.int .i64 T.kind, .int .i64 T.pos, .string ⟨T.name.toArray⟩, .int .i64 T.num, .slice a2 l2 c2] t2)) := by
 refine ⟨(Blk.new w (nodeL T a1 l1 c1) t1).alloc _, ?_, ((Below.refl _ _).alloc (Nat.le_refl _) _).alloc (by simp) _⟩
 have h := Blk.new (w.alloc (.cells #[.int .i64 T.kind, .int .i64 T.pos, .string ⟨T.name.toArray⟩, .int .i64 T.num, .slice a1 l1 c1] t1)) (nodeL T a2 l2 c2) t2
 rw [show (w.alloc (.cells #[.int .i64 T.kind, .int .i64 T.pos, .string ⟨T.name.toArray⟩, .int .i64 T.num, .slice a1 l1 c1] t1)).heap.size = w.heap.size + 1 by simp] at h
 exact h
theorem Sw.past {w : World} {T : Sy.Tr} {a1 a2 : Option Addr} {l1 c1 l2 c2 : Nat} {wr w2 : World} (h : Sw w (nodeL T a1 l1 c1) (nodeL T a2 l2 c2) wr) (hb : Below wr.heap.size wr w2) : Sw w (nodeL T a1 l1 c1) (nodeL T a2 l2 c2) w2 :=
 ⟨Blk.past h.one hb, Blk.past h.two hb, h.below.trans (hb.mono h.below.size)⟩
theorem Sw.drew {w : World} {v1 v2 : List Value} {wr : World} (h : Sw w v1 v2 wr) : Sw w v1 v2 wr.drew := ⟨h.one.drew, h.two.drew, h.below.drew⟩

theorem same_any : ∀ (n : Nat) (T : Sy.Tr), nodes T ≤ n → n ≤ 100000 → ∀ (w : World) (F1 F2 : Nat → Prop) (a1 a2 : Option Addr) (l1 c1 l2 c2 : Nat), Kids w F1 (.slice a1 l1 c1) T.kids → Kids w F2 (.slice a2 l2 c2) T.kids →
  Calls Tryz.prog 8 #[.agg #[.int .i64 T.kind, .int .i64 T.pos, .string ⟨T.name.toArray⟩, .int .i64 T.num, .slice a1 l1 c1], .agg #[.int .i64 T.kind, .int .i64 T.pos, .string ⟨T.name.toArray⟩, .int .i64 T.num, .slice a2 l2 c2], .bool true] w
   fun e w' => e = .returned (.bool true) ∧ Hid (Below w.heap.size w w') := by
 intro n
 induction n with
 | zero => intro T h; have := nodes_one T; omega
 | succ n ih =>
  intro T hT hn w F1 F2 a1 a2 l1 c1 l2 c2 hk1 hk2
  have e1 := kids_len hk1
  have e2 := kids_len hk2
  have hlen := nodesL_len T.kids
  have hnk := nodes_kids T
  have HIH := hid (fun (i : Nat) (hi : i < T.kids.length) => ih T.kids[i] (by have := nodesL_get T.kids i hi; omega) (by omega))
  have HK1 := hid hk1
  have HK2 := hid hk2
  have HS0 := hid (sw_new w T a1 a2 l1 c1 l2 c2 24 24)
  clear hk1 hk2 ih
  obtain ⟨L, hL⟩ : ∃ L, L = T.kids.length := ⟨_, rfl⟩
  rw [← hL] at e1 e2 hlen
  have hL9 : L ≤ 100000 := by omega
  have HLL := hid hL
  clear hnk hT hlen hL hn
  subst e1 e2
  go_enter Tryz.func8, Tryz.ntmps8
  go_wp2_with fail
  go_loopg [7] l2 (fun m u wr => u = .int .i64 ((l2 : Int) - m) ∧ m ≤ l2 ∧ Hid (Sw w (nodeL T a1 l2 c1) (nodeL T a2 l2 c2) wr))
  case atStart => exact ⟨by simp, Nat.le_refl _, HS0⟩
  case round =>
   obtain ⟨hu, hml, HS⟩ := hrel
   subst hu
   obtain ⟨⟨q0, q1, q2, q3, q4⟩, q5, q6, q7, q8, q9⟩ := blk5 HS.out.one
   obtain ⟨⟨u0, u1, u2, u3, u4⟩, u5, u6, u7, u8, u9⟩ := blk5 HS.out.two
   have hsz1 := Blk.lt HS.out.two
   rcases gk with _ | j
   ·have hge : ¬ (l2 : Int) - ((0 : Nat) : Int) < l2 := by omega
    go_wp2_with fail
    refine bodyPost_ret (v := .bool true) (by simp [results, Tryz.results8, go_sem]) rfl ⟨rfl, hid HS.out.below⟩
   ·obtain ⟨ix, hix⟩ : ∃ ix : Nat, (l2 : Int) - ((j + 1 : Nat) : Int) = (ix : Int) := ⟨l2 - (j + 1), by omega⟩
    have hi1 : ix < l2 := by omega
    have hii : (ix : Int) < l2 := by omega
    have hi0 : (0 : Int) ≤ (ix : Int) := by omega
    rw [hix]
    have hlt : ix < T.kids.length := by have := HLL.out; omega
    obtain ⟨g1, b1, m1, d1, rfl, hn1, hs1⟩ := kids_at HK1.out ix hlt
    obtain ⟨g2, b2, m2, d2, rfl, hn2, hs2⟩ := kids_at HK2.out ix hlt
    have hg1 := hn1.lt
    have hg2 := hn2.lt
    have HC := hid (fun (W : World) (hW : Below w.heap.size w W) => HIH.out ix hlt W F1 F2 b1 b2 m1 d1 m2 d2 (hs1.carry (fun g _ hg => hW.block g hg) (fun _ h _ => h)) (hs2.carry (fun g _ hg => hW.block g hg) (fun _ h _ => h)))
    obtain ⟨x0, x1, x2, x3, x4⟩ := hn1.of_heap (HS.out.below.block g1 hg1)
    obtain ⟨y0, y1, y2, y3, y4⟩ := hn2.of_heap (HS.out.below.block g2 hg2)
    have HN1 := hid hn1
    have HN2 := hid hn2
    clear hs1 hs2 hn1 hn2
    generalize T.kids[ix] = S at *
    go_wp2_with fail
    go_region_held3 (fun w' => w'.cell? ⟨w.heap.size, 4, none⟩ = some (.slice (some ⟨g1, 0, none⟩) l2 c1) ∧ w'.cell? ⟨w.heap.size + 1, 4, none⟩ = some (.slice (some ⟨g2, 0, none⟩) l2 c2) ∧ w'.cell? ⟨g1, ix * 5, none⟩ = some (.int .i64 S.kind) ∧ w'.cell? ⟨g1, ix * 5 + 1, none⟩ = some (.int .i64 S.pos) ∧ w'.cell? ⟨g1, ix * 5 + 2, none⟩ = some (.string ⟨S.name.toArray⟩) ∧ w'.cell? ⟨g1, ix * 5 + 3, none⟩ = some (.int .i64 S.num) ∧ w'.cell? ⟨g1, ix * 5 + 4, none⟩ = some (.slice b1 m1 d1) ∧ w'.cell? ⟨g2, ix * 5, none⟩ = some (.int .i64 S.kind) ∧ w'.cell? ⟨g2, ix * 5 + 1, none⟩ = some (.int .i64 S.pos) ∧ w'.cell? ⟨g2, ix * 5 + 2, none⟩ = some (.string ⟨S.name.toArray⟩) ∧ w'.cell? ⟨g2, ix * 5 + 3, none⟩ = some (.int .i64 S.num) ∧ w'.cell? ⟨g2, ix * 5 + 4, none⟩ = some (.slice b2 m2 d2)) (go_keep) (first
     | (go_at_call 8; refine (HC.out _ (by repeat (with_reducible (first | exact HS.out.below | apply Below.drew)))).mono ?_; rintro en w3 ⟨rfl, HB3⟩; have HS3 := hid ((show Sw w (nodeL T (some ⟨g1, 0, none⟩) l2 c1) (nodeL T (some ⟨g2, 0, none⟩) l2 c2) _ by repeat (with_reducible (first | exact HS.out | apply Sw.drew))).past HB3.out); obtain ⟨p0, p1, p2, p3, p4⟩ := HN1.out.of_heap (HS3.out.below.block g1 hg1); obtain ⟨r0, r1, r2, r3, r4⟩ := HN2.out.of_heap (HS3.out.below.block g2 hg2); obtain ⟨⟨s0, s1, s2, s3, s4⟩, s5, s6, s7, s8, s9⟩ := blk5 HS3.out.one; obtain ⟨⟨v0, v1, v2, v3, v4⟩, v5, v6, v7, v8, v9⟩ := blk5 HS3.out.two))
    all_goals go_wp2_with fail
    all_goals
     go_roundg j
     case measure => omega
     case rel => exact ⟨by rw [show (ix : Int) + 1 = (l2 : Int) - (j : Nat) by omega], by omega, by first | exact HS3 | exact hid HS3.out.drew⟩

open Go.RowKit

def nodeP (T : Sy.Tr) (p : Nat) (a : Option Addr) (l c : Nat) : List Value := [.int .i64 T.kind, .int .i64 p, .string ⟨T.name.toArray⟩, .int .i64 T.num, .slice a l c]

theorem sw_new2 (w : World) (T : Sy.Tr) (p : Nat) (a1 a2 : Option Addr) (l1 c1 l2 c2 : Nat) (t1 t2 : TypeId) : Sw w (nodeL T a1 l1 c1) (nodeP T p a2 l2 c2)
  ((w.alloc (.cells #[.int .i64 T.kind, .int .i64 T.pos, .string ⟨T.name.toArray⟩, .int .i64 T.num, .slice a1 l1 c1] t1)).alloc (.cells #[.int .i64 T.kind, .int .i64 p, .string ⟨T.name.toArray⟩, .int .i64 T.num, .slice a2 l2 c2] t2)) := by
 refine ⟨(Blk.new w (nodeL T a1 l1 c1) t1).alloc _, ?_, ((Below.refl _ _).alloc (Nat.le_refl _) _).alloc (by simp) _⟩
 have h := Blk.new (w.alloc (.cells #[.int .i64 T.kind, .int .i64 T.pos, .string ⟨T.name.toArray⟩, .int .i64 T.num, .slice a1 l1 c1] t1)) (nodeP T p a2 l2 c2) t2
 rw [show (w.alloc (.cells #[.int .i64 T.kind, .int .i64 T.pos, .string ⟨T.name.toArray⟩, .int .i64 T.num, .slice a1 l1 c1] t1)).heap.size = w.heap.size + 1 by simp] at h
 exact h
theorem Sw.past2 {w : World} {T : Sy.Tr} {p : Nat} {a1 a2 : Option Addr} {l1 c1 l2 c2 : Nat} {wr w2 : World} (h : Sw w (nodeL T a1 l1 c1) (nodeP T p a2 l2 c2) wr) (hb : Below wr.heap.size wr w2) : Sw w (nodeL T a1 l1 c1) (nodeP T p a2 l2 c2) w2 :=
 ⟨Blk.past h.one hb, Blk.past h.two hb, h.below.trans (hb.mono h.below.size)⟩

theorem same_np : ∀ (n : Nat) (T U : Sy.Tr), Sy.EqT n T U → nodes T ≤ 100000 → ∀ (w : World) (F1 F2 : Nat → Prop) (a1 a2 : Option Addr) (l1 c1 l2 c2 : Nat), Kids w F1 (.slice a1 l1 c1) T.kids → Kids w F2 (.slice a2 l2 c2) U.kids →
  Calls Tryz.prog 8 #[.agg #[.int .i64 T.kind, .int .i64 T.pos, .string ⟨T.name.toArray⟩, .int .i64 T.num, .slice a1 l1 c1], .agg #[.int .i64 U.kind, .int .i64 U.pos, .string ⟨U.name.toArray⟩, .int .i64 U.num, .slice a2 l2 c2], .bool false] w
   fun e w' => e = .returned (.bool true) ∧ Hid (Below w.heap.size w w') := by
 intro n
 induction n with
 | zero => intro T U h; exact h.elim
 | succ n ih =>
  intro T U hE hT w F1 F2 a1 a2 l1 c1 l2 c2 hk1 hk2
  obtain ⟨ek, en, em, el, eks⟩ := hE
  rw [← ek, ← en, ← em]
  generalize U.pos = pU at *
  have e1 := kids_len hk1
  have e2 := kids_len hk2
  have hlen := nodesL_len T.kids
  have hnk := nodes_kids T
  have HIH := hid (fun (i : Nat) (hi : i < T.kids.length) (hi2 : i < U.kids.length) => ih T.kids[i] U.kids[i] (eks i hi hi2) (by have := nodesL_get T.kids i hi; omega))
  have HK1 := hid hk1
  have HK2 := hid hk2
  have HS0 := hid (sw_new2 w T pU a1 a2 l1 c1 l2 c2 24 24)
  have HEL := hid el
  rw [← el] at e2
  clear hk1 hk2 ih ek en em eks el
  obtain ⟨L, hL⟩ : ∃ L, L = T.kids.length := ⟨_, rfl⟩
  rw [← hL] at e1 e2 hlen
  have hL9 : L ≤ 100000 := by omega
  have HLL := hid hL
  clear hnk hT hlen hL
  subst e1 e2
  go_enter Tryz.func8, Tryz.ntmps8
  go_wp2_with fail
  go_loopg [7] l2 (fun m u wr => u = .int .i64 ((l2 : Int) - m) ∧ m ≤ l2 ∧ Hid (Sw w (nodeL T a1 l2 c1) (nodeP T pU a2 l2 c2) wr))
  case atStart => exact ⟨by simp, Nat.le_refl _, HS0⟩
  case round =>
   obtain ⟨hu, hml, HS⟩ := hrel
   subst hu
   obtain ⟨⟨q0, q1, q2, q3, q4⟩, q5, q6, q7, q8, q9⟩ := blk5 HS.out.one
   obtain ⟨⟨u0, u1, u2, u3, u4⟩, u5, u6, u7, u8, u9⟩ := blk5 HS.out.two
   have hsz1 := Blk.lt HS.out.two
   rcases gk with _ | j
   ·have hge : ¬ (l2 : Int) - ((0 : Nat) : Int) < l2 := by omega
    go_wp2_with fail
    refine bodyPost_ret (v := .bool true) (by simp [results, Tryz.results8, go_sem]) rfl ⟨rfl, hid HS.out.below⟩
   ·obtain ⟨ix, hix⟩ : ∃ ix : Nat, (l2 : Int) - ((j + 1 : Nat) : Int) = (ix : Int) := ⟨l2 - (j + 1), by omega⟩
    have hi1 : ix < l2 := by omega
    have hii : (ix : Int) < l2 := by omega
    have hi0 : (0 : Int) ≤ (ix : Int) := by omega
    rw [hix]
    have hlt : ix < T.kids.length := by have := HLL.out; omega
    have hlt2 : ix < U.kids.length := by have := HEL.out; omega
    obtain ⟨g1, b1, m1, d1, rfl, hn1, hs1⟩ := kids_at HK1.out ix hlt
    obtain ⟨g2, b2, m2, d2, rfl, hn2, hs2⟩ := kids_at HK2.out ix hlt2
    have hg1 := hn1.lt
    have hg2 := hn2.lt
    have HC := hid (fun (W : World) (hW : Below w.heap.size w W) => HIH.out ix hlt hlt2 W F1 F2 b1 b2 m1 d1 m2 d2 (hs1.carry (fun g _ hg => hW.block g hg) (fun _ h _ => h)) (hs2.carry (fun g _ hg => hW.block g hg) (fun _ h _ => h)))
    obtain ⟨x0, x1, x2, x3, x4⟩ := hn1.of_heap (HS.out.below.block g1 hg1)
    obtain ⟨y0, y1, y2, y3, y4⟩ := hn2.of_heap (HS.out.below.block g2 hg2)
    have HN1 := hid hn1
    have HN2 := hid hn2
    clear hs1 hs2 hn1 hn2
    generalize T.kids[ix] = S at *
    generalize U.kids[ix] = S2 at *
    go_wp2_with fail
    go_region_held3 (fun w' => w'.cell? ⟨w.heap.size, 4, none⟩ = some (.slice (some ⟨g1, 0, none⟩) l2 c1) ∧ w'.cell? ⟨w.heap.size + 1, 4, none⟩ = some (.slice (some ⟨g2, 0, none⟩) l2 c2) ∧ w'.cell? ⟨g1, ix * 5, none⟩ = some (.int .i64 S.kind) ∧ w'.cell? ⟨g1, ix * 5 + 1, none⟩ = some (.int .i64 S.pos) ∧ w'.cell? ⟨g1, ix * 5 + 2, none⟩ = some (.string ⟨S.name.toArray⟩) ∧ w'.cell? ⟨g1, ix * 5 + 3, none⟩ = some (.int .i64 S.num) ∧ w'.cell? ⟨g1, ix * 5 + 4, none⟩ = some (.slice b1 m1 d1) ∧ w'.cell? ⟨g2, ix * 5, none⟩ = some (.int .i64 S2.kind) ∧ w'.cell? ⟨g2, ix * 5 + 1, none⟩ = some (.int .i64 S2.pos) ∧ w'.cell? ⟨g2, ix * 5 + 2, none⟩ = some (.string ⟨S2.name.toArray⟩) ∧ w'.cell? ⟨g2, ix * 5 + 3, none⟩ = some (.int .i64 S2.num) ∧ w'.cell? ⟨g2, ix * 5 + 4, none⟩ = some (.slice b2 m2 d2)) (go_keep) (first
     | (go_at_call 8; refine (HC.out _ (by repeat (with_reducible (first | exact HS.out.below | apply Below.drew)))).mono ?_; rintro en w3 ⟨rfl, HB3⟩; have HS3 := hid ((show Sw w (nodeL T (some ⟨g1, 0, none⟩) l2 c1) (nodeP T pU (some ⟨g2, 0, none⟩) l2 c2) _ by repeat (with_reducible (first | exact HS.out | apply Sw.drew))).past2 HB3.out); obtain ⟨p0, p1, p2, p3, p4⟩ := HN1.out.of_heap (HS3.out.below.block g1 hg1); obtain ⟨r0, r1, r2, r3, r4⟩ := HN2.out.of_heap (HS3.out.below.block g2 hg2); obtain ⟨⟨s0, s1, s2, s3, s4⟩, s5, s6, s7, s8, s9⟩ := blk5 HS3.out.one; obtain ⟨⟨v0, v1, v2, v3, v4⟩, v5, v6, v7, v8, v9⟩ := blk5 HS3.out.two))
    all_goals go_wp2_with fail
    all_goals
     go_roundg j
     case measure => omega
     case rel => exact ⟨by rw [show (ix : Int) + 1 = (l2 : Int) - (j : Nat) by omega], by omega, by first | exact HS3 | exact hid HS3.out.drew⟩

open Go.RowKit

theorem high_kids (T : Sy.Tr) : high T = 1 + highL T.kids := by cases T; simp [high, Sy.Tr.kids]
theorem highL_take : ∀ (l : List Sy.Tr) (i : Nat) (h : i < l.length), highL (l.take (i + 1)) = max (highL (l.take i)) (high l[i]) := by
 intro l
 induction l with
 | nil => intro i h; simp at h
 | cons t r ih =>
  intro i h
  cases i with
  | zero => simp [highL]
  | succ i =>
   have := ih i (by simpa using h)
   simp only [List.take_succ_cons, highL, List.getElem_cons_succ, this]
   omega
theorem highL_le (l : List Sy.Tr) (N : Nat) (h : ∀ i (hi : i < l.length), high l[i] ≤ N) : highL l ≤ N := by
 induction l with
 | nil => simp [highL]
 | cons t r ih =>
  have h0 := h 0 (by simp)
  have h1 := ih (fun i hi => by have := h (i + 1) (by simpa using hi); simpa using this)
  simp only [highL, List.getElem_cons_zero] at h0 ⊢
  omega
theorem highL_take_le (l : List Sy.Tr) (i : Nat) : highL (l.take i) ≤ highL l := by
 induction l generalizing i with
 | nil => simp
 | cons t r ih =>
  cases i with
  | zero => simp [highL]
  | succ i =>
   have := ih i
   simp only [List.take_succ_cons, highL]
   omega
theorem high_nodes : ∀ (n : Nat) (T : Sy.Tr), nodes T ≤ n → high T ≤ nodes T := by
 intro n
 induction n with
 | zero => intro T h; have := nodes_one T; omega
 | succ n ih =>
  intro T h
  have hk := nodes_kids T
  rw [high_kids]
  have := highL_le T.kids (nodesL T.kids) (fun i hi => by
   have h1 := nodesL_get T.kids i hi
   have h2 := ih T.kids[i] (by omega)
   omega)
  omega

structure Hw1 (w : World) (v1 : List Value) (wr : World) : Prop where
 one : Blk wr w.heap.size v1
 below : Below w.heap.size w wr
theorem Hw1.past {w : World} {T : Sy.Tr} {a1 : Option Addr} {l1 c1 : Nat} {wr w2 : World} (h : Hw1 w (nodeL T a1 l1 c1) wr) (hb : Below wr.heap.size wr w2) : Hw1 w (nodeL T a1 l1 c1) w2 :=
 ⟨Blk.past h.one hb, h.below.trans (hb.mono h.below.size)⟩

theorem high_any : ∀ (n : Nat) (T : Sy.Tr), nodes T ≤ n → n ≤ 100000 → ∀ (w : World) (F1 : Nat → Prop) (a1 : Option Addr) (l1 c1 : Nat), Kids w F1 (.slice a1 l1 c1) T.kids →
  Calls Tryz.prog 11 #[.agg #[.int .i64 T.kind, .int .i64 T.pos, .string ⟨T.name.toArray⟩, .int .i64 T.num, .slice a1 l1 c1]] w
   fun e w' => e = .returned (.int .i64 (high T)) ∧ Hid (Below w.heap.size w w') := by
 intro n
 induction n with
 | zero => intro T h; have := nodes_one T; omega
 | succ n ih =>
  intro T hT hn w F1 a1 l1 c1 hk1
  have e1 := kids_len hk1
  have hlen := nodesL_len T.kids
  have hnk := nodes_kids T
  have hhk := high_kids T
  have hhn := high_nodes _ T (Nat.le_refl _)
  have HIH := hid (fun (i : Nat) (hi : i < T.kids.length) => ih T.kids[i] (by have := nodesL_get T.kids i hi; omega) (by omega))
  have HK1 := hid hk1
  have HS0 : Hid (Hw1 w (nodeL T a1 l1 c1) (w.alloc (.cells #[.int .i64 T.kind, .int .i64 T.pos, .string ⟨T.name.toArray⟩, .int .i64 T.num, .slice a1 l1 c1] 24))) :=
   ⟨Blk.new w (nodeL T a1 l1 c1) 24, (Below.refl _ _).alloc (Nat.le_refl _) _⟩
  have HHT := hid (highL_take T.kids)
  have HHL := hid (fun i => highL_take_le T.kids i)
  have HHK := hid hhk
  have hH9 : highL T.kids ≤ 100000 := by omega
  have HALL : Hid (highL (T.kids.take T.kids.length) = highL T.kids) := by rw [Hid, List.take_length]
  clear hk1 ih
  have hL9 : l1 ≤ 100000 := by omega
  have HLL := hid e1
  clear hnk hT hlen hn e1 hhk hhn
  go_enter Tryz.func11, Tryz.ntmps11
  go_wp2_with fail
  go_loopg [3, 4] l1 (fun m u3 u4 wr => u3 = .int .i64 (highL (T.kids.take (l1 - m))) ∧ u4 = .int .i64 ((l1 : Int) - m) ∧ m ≤ l1 ∧ Hid (Hw1 w (nodeL T a1 l1 c1) wr))
  case atStart => exact ⟨by simp [highL], by simp, Nat.le_refl _, HS0⟩
  case round =>
   obtain ⟨hu3, hu, hml, HS⟩ := hrel
   subst hu hu3
   obtain ⟨⟨q0, q1, q2, q3, q4⟩, q5, q6, q7, q8, q9⟩ := blk5 HS.out.one
   have hsz1 := Blk.lt HS.out.one
   rcases gk with _ | j
   ·have hge : ¬ (l1 : Int) - ((0 : Nat) : Int) < l1 := by omega
    have HX : Hid (highL (T.kids.take (l1 - 0)) = highL T.kids) := by rw [Hid, Nat.sub_zero, HLL.out]; exact HALL.out
    rw [HX.out]
    go_wp2_with fail
    refine bodyPost_ret (v := .int .i64 ((highL T.kids : Int) + 1)) (by simp [results, Tryz.results11, go_sem]) rfl ⟨?_, hid HS.out.below⟩
    rw [HHK.out]
    congr 2
    omega
   ·obtain ⟨ix, hix, hixn⟩ : ∃ ix : Nat, (l1 : Int) - ((j + 1 : Nat) : Int) = (ix : Int) ∧ l1 - (j + 1) = ix := ⟨l1 - (j + 1), by omega, rfl⟩
    have hi1 : ix < l1 := by omega
    have hii : (ix : Int) < l1 := by omega
    have hi0 : (0 : Int) ≤ (ix : Int) := by omega
    have hlt : ix < T.kids.length := by have := HLL.out; omega
    have HTK := hid (HHT.out ix hlt)
    have HTL := hid (HHL.out ix)
    have HTL1 := hid (HHL.out (ix + 1))
    have HNX : Hid (l1 - j = ix + 1) := by rw [Hid]; omega
    rw [hix, hixn]
    generalize highL (T.kids.take ix) = mo at *
    obtain ⟨g1, b1, m1, d1, rfl, hn1, hs1⟩ := kids_at HK1.out ix hlt
    have hg1 := hn1.lt
    have HC := hid (fun (W : World) (hW : Below w.heap.size w W) => HIH.out ix hlt W F1 b1 m1 d1 (hs1.carry (fun g _ hg => hW.block g hg) (fun _ h _ => h)))
    obtain ⟨x0, x1, x2, x3, x4⟩ := hn1.of_heap (HS.out.below.block g1 hg1)
    clear hs1 hn1
    generalize T.kids[ix] = S at *
    go_wp2_with (go_at_call 11; refine (HC.out _ HS.out.below).mono ?_; rintro en w3 ⟨rfl, HB3⟩; have HS3 := hid (HS.out.past HB3.out))
    all_goals
     go_roundg j
     case measure => omega
     case rel =>
      refine ⟨?_, by rw [show (ix : Int) + 1 = (l1 : Int) - (j : Nat) by omega], by omega, HS3⟩
      rw [HNX.out, HTK.out]
      first
       | (have h5 : mo ≤ high S := by omega
          rw [Nat.max_eq_right h5])
       | (have h5 : high S ≤ mo := by omega
          rw [Nat.max_eq_left h5])
end Go.Proofs.YtoajnlhegallpaaGreatDoor
