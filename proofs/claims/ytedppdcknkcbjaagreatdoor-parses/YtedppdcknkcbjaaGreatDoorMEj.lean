/-
  The statements' own Same: of two rows of kids that hold one tree it answers true.
  The law: what the program reads is what the document reads.
-/
import Derived.Test.YtedppdcknkcbjaaGreatDoorMRda
import Derived.Test.YtedppdcknkcbjaaGreatDoorMDl
import Derived.Test.YtedppdcknkcbjaaGreatDoorMSn
import Derived.Test.YtedppdcknkcbjaaGreatDoorMEh
set_option linter.unusedVariables false
set_option linter.unusedSimpArgs false
namespace Go.Proofs.YtedppdcknkcbjaaGreatDoor
open Go.RowKit

theorem nodesL_get : ∀ (l : List Sy.Tr) (i : Nat) (h : i < l.length), nodes l[i] ≤ nodesL l := by
  intro l
  induction l with
  | nil => intro i h; simp at h
  | cons t r ih =>
    intro i h
    simp only [nodesL]
    cases i with
    | zero => simp
    | succ i =>
      have := ih i (by simpa using h)
      simp only [List.getElem_cons_succ]
      omega
theorem nodes_one (T : Sy.Tr) : 1 ≤ nodes T := by cases T; simp [nodes]
theorem nodes_kids (T : Sy.Tr) : nodes T = 1 + nodesL T.kids := by cases T; simp [nodes, Sy.Tr.kids]

theorem kids_at {w : World} {F : Nat → Prop} {a : Option Addr} {l c : Nat} {ks : List Sy.Tr} (h : Kids w F (.slice a l c) ks) (i : Nat) (hi : i < ks.length) :
    ∃ g a' l' c', a = some ⟨g, 0, none⟩ ∧ NodeAt w g (i * 5) ks[i] (.slice a' l' c') ∧ Kids w F (.slice a' l' c') ks[i].kids := by
  generalize hv : Value.slice a l c = v at h
  cases h with
  | nil => simp at hi
  | row g c kids vs hg h0 hc hcell hk =>
    simp only [Value.slice.injEq] at hv
    obtain ⟨a', c', he⟩ := (hk i hi).slice
    refine ⟨g, a', ks[i].kids.length, c', hv.1, ?_, ?_⟩
    · rw [← he]; exact hcell i hi
    · rw [← he]; exact hk i hi
theorem kids_len {w : World} {F : Nat → Prop} {a : Option Addr} {l c : Nat} {ks : List Sy.Tr} (h : Kids w F (.slice a l c) ks) : l = ks.length := by
  obtain ⟨a', c', he⟩ := h.slice
  simp only [Value.slice.injEq] at he
  exact he.2.1

structure Sw (w : World) (v1 v2 : List Value) (wr : World) : Prop where
  one : Blk wr w.heap.size v1
  two : Blk wr (w.heap.size + 1) v2
  below : Below w.heap.size w wr

def nodeL (T : Sy.Tr) (a : Option Addr) (l c : Nat) : List Value := [.int .i64 T.kind, .int .i64 T.pos, .string ⟨T.name.toArray⟩, .int .i64 T.num, .slice a l c]

theorem sw_new (w : World) (T : Sy.Tr) (a1 a2 : Option Addr) (l1 c1 l2 c2 : Nat) (t1 t2 : TypeId) : Sw w (nodeL T a1 l1 c1) (nodeL T a2 l2 c2)
    ((w.alloc (.cells #[.int .i64 T.kind, .int .i64 T.pos, .string ⟨T.name.toArray⟩, .int .i64 T.num, .slice a1 l1 c1] t1)).alloc (.cells #[.int .i64 T.kind, .int .i64 T.pos, .string ⟨T.name.toArray⟩, .int .i64 T.num, .slice a2 l2 c2] t2)) := by
  refine ⟨(Blk.new w (nodeL T a1 l1 c1) t1).alloc _, ?_, ((Below.refl _ _).alloc (Nat.le_refl _) _).alloc (by simp) _⟩
  have h := Blk.new (w.alloc (.cells #[.int .i64 T.kind, .int .i64 T.pos, .string ⟨T.name.toArray⟩, .int .i64 T.num, .slice a1 l1 c1] t1)) (nodeL T a2 l2 c2) t2
  rw [show (w.alloc (.cells #[.int .i64 T.kind, .int .i64 T.pos, .string ⟨T.name.toArray⟩, .int .i64 T.num, .slice a1 l1 c1] t1)).heap.size = w.heap.size + 1 by simp] at h
  exact h
theorem Sw.past {w : World} {T : Sy.Tr} {a1 a2 : Option Addr} {l1 c1 l2 c2 : Nat} {wr w2 : World} (h : Sw w (nodeL T a1 l1 c1) (nodeL T a2 l2 c2) wr) (hb : Below wr.heap.size wr w2) : Sw w (nodeL T a1 l1 c1) (nodeL T a2 l2 c2) w2 :=
  ⟨Blk.past h.one hb, Blk.past h.two hb, h.below.trans (hb.mono h.below.size)⟩
theorem Sw.drew {w : World} {v1 v2 : List Value} {wr : World} (h : Sw w v1 v2 wr) : Sw w v1 v2 wr.drew := ⟨h.one.drew, h.two.drew, h.below.drew⟩

set_option maxRecDepth 100000 in
set_option maxHeartbeats 4000000 in
theorem same_any : ∀ (n : Nat) (T : Sy.Tr), nodes T ≤ n → n ≤ 100000 → ∀ (w : World) (F1 F2 : Nat → Prop) (a1 a2 : Option Addr) (l1 c1 l2 c2 : Nat), Kids w F1 (.slice a1 l1 c1) T.kids → Kids w F2 (.slice a2 l2 c2) T.kids →
    Calls Tryz.prog 8 #[.agg #[.int .i64 T.kind, .int .i64 T.pos, .string ⟨T.name.toArray⟩, .int .i64 T.num, .slice a1 l1 c1], .agg #[.int .i64 T.kind, .int .i64 T.pos, .string ⟨T.name.toArray⟩, .int .i64 T.num, .slice a2 l2 c2], .bool true] w
      fun e w' => e = .returned (.bool true) ∧ Hid (Below w.heap.size w w') := by
  intro n
  induction n with
  | zero => intro T h; have := nodes_one T; omega
  | succ n ih =>
    intro T hT hn w F1 F2 a1 a2 l1 c1 l2 c2 hk1 hk2
    have e1 := kids_len hk1
    have e2 := kids_len hk2
    have hlen := nodesL_len T.kids
    have hnk := nodes_kids T
    have HIH := hid (fun (i : Nat) (hi : i < T.kids.length) => ih T.kids[i] (by have := nodesL_get T.kids i hi; omega) (by omega))
    have HK1 := hid hk1
    have HK2 := hid hk2
    have HS0 := hid (sw_new w T a1 a2 l1 c1 l2 c2 24 24)
    clear hk1 hk2 ih
    obtain ⟨L, hL⟩ : ∃ L, L = T.kids.length := ⟨_, rfl⟩
    rw [← hL] at e1 e2 hlen
    have hL9 : L ≤ 100000 := by omega
    have HLL := hid hL
    clear hnk hT hlen hL hn
    subst e1 e2
    go_enter Tryz.func8, Tryz.ntmps8
    go_wp2_with fail
    go_loopg [7] l2 (fun m u wr => u = .int .i64 ((l2 : Int) - m) ∧ m ≤ l2 ∧ Hid (Sw w (nodeL T a1 l2 c1) (nodeL T a2 l2 c2) wr))
    case atStart => exact ⟨by simp, Nat.le_refl _, HS0⟩
    case round =>
      obtain ⟨hu, hml, HS⟩ := hrel
      subst hu
      obtain ⟨⟨q0, q1, q2, q3, q4⟩, q5, q6, q7, q8, q9⟩ := blk5 HS.out.one
      obtain ⟨⟨u0, u1, u2, u3, u4⟩, u5, u6, u7, u8, u9⟩ := blk5 HS.out.two
      have hsz1 := Blk.lt HS.out.two
      rcases gk with _ | j
      · have hge : ¬ (l2 : Int) - ((0 : Nat) : Int) < l2 := by omega
        go_wp2_with fail
        refine bodyPost_ret (v := .bool true) (by simp [results, Tryz.results8, go_sem]) rfl ⟨rfl, hid HS.out.below⟩
      · obtain ⟨ix, hix⟩ : ∃ ix : Nat, (l2 : Int) - ((j + 1 : Nat) : Int) = (ix : Int) := ⟨l2 - (j + 1), by omega⟩
        have hi1 : ix < l2 := by omega
        have hii : (ix : Int) < l2 := by omega
        have hi0 : (0 : Int) ≤ (ix : Int) := by omega
        rw [hix]
        have hlt : ix < T.kids.length := by have := HLL.out; omega
        obtain ⟨g1, b1, m1, d1, rfl, hn1, hs1⟩ := kids_at HK1.out ix hlt
        obtain ⟨g2, b2, m2, d2, rfl, hn2, hs2⟩ := kids_at HK2.out ix hlt
        have hg1 := hn1.lt
        have hg2 := hn2.lt
        have HC := hid (fun (W : World) (hW : Below w.heap.size w W) => HIH.out ix hlt W F1 F2 b1 b2 m1 d1 m2 d2 (hs1.carry (fun g _ hg => hW.block g hg) (fun _ h _ => h)) (hs2.carry (fun g _ hg => hW.block g hg) (fun _ h _ => h)))
        obtain ⟨x0, x1, x2, x3, x4⟩ := hn1.of_heap (HS.out.below.block g1 hg1)
        obtain ⟨y0, y1, y2, y3, y4⟩ := hn2.of_heap (HS.out.below.block g2 hg2)
        have HN1 := hid hn1
        have HN2 := hid hn2
        clear hs1 hs2 hn1 hn2
        generalize T.kids[ix] = S at *
        go_wp2_with fail
        go_region_held3 (fun w' => w'.cell? ⟨w.heap.size, 4, none⟩ = some (.slice (some ⟨g1, 0, none⟩) l2 c1) ∧ w'.cell? ⟨w.heap.size + 1, 4, none⟩ = some (.slice (some ⟨g2, 0, none⟩) l2 c2) ∧ w'.cell? ⟨g1, ix * 5, none⟩ = some (.int .i64 S.kind) ∧ w'.cell? ⟨g1, ix * 5 + 1, none⟩ = some (.int .i64 S.pos) ∧ w'.cell? ⟨g1, ix * 5 + 2, none⟩ = some (.string ⟨S.name.toArray⟩) ∧ w'.cell? ⟨g1, ix * 5 + 3, none⟩ = some (.int .i64 S.num) ∧ w'.cell? ⟨g1, ix * 5 + 4, none⟩ = some (.slice b1 m1 d1) ∧ w'.cell? ⟨g2, ix * 5, none⟩ = some (.int .i64 S.kind) ∧ w'.cell? ⟨g2, ix * 5 + 1, none⟩ = some (.int .i64 S.pos) ∧ w'.cell? ⟨g2, ix * 5 + 2, none⟩ = some (.string ⟨S.name.toArray⟩) ∧ w'.cell? ⟨g2, ix * 5 + 3, none⟩ = some (.int .i64 S.num) ∧ w'.cell? ⟨g2, ix * 5 + 4, none⟩ = some (.slice b2 m2 d2)) (go_keep) (first
          | (go_at_call 8; refine (HC.out _ (by repeat (with_reducible (first | exact HS.out.below | apply Below.drew)))).mono ?_; rintro en w3 ⟨rfl, HB3⟩; have HS3 := hid ((show Sw w (nodeL T (some ⟨g1, 0, none⟩) l2 c1) (nodeL T (some ⟨g2, 0, none⟩) l2 c2) _ by repeat (with_reducible (first | exact HS.out | apply Sw.drew))).past HB3.out); obtain ⟨p0, p1, p2, p3, p4⟩ := HN1.out.of_heap (HS3.out.below.block g1 hg1); obtain ⟨r0, r1, r2, r3, r4⟩ := HN2.out.of_heap (HS3.out.below.block g2 hg2); obtain ⟨⟨s0, s1, s2, s3, s4⟩, s5, s6, s7, s8, s9⟩ := blk5 HS3.out.one; obtain ⟨⟨v0, v1, v2, v3, v4⟩, v5, v6, v7, v8, v9⟩ := blk5 HS3.out.two))
        all_goals go_wp2_with fail
        all_goals
          go_roundg j
          case measure => omega
          case rel => exact ⟨by rw [show (ix : Int) + 1 = (l2 : Int) - (j : Nat) by omega], by omega, by first | exact HS3 | exact hid HS3.out.drew⟩
end Go.Proofs.YtedppdcknkcbjaaGreatDoor

namespace Go.Proofs.YtedppdcknkcbjaaGreatDoor
open Go.RowKit
open Sy (Tr)

theorem fit_start {z : Sy.Env} (ts : List Lx.Tk) : Sy.Fit z (Sy.nextA z ⟨Sy.zTk, ts, (0, 0)⟩) ts := by
  cases ts with
  | nil =>
    by_cases hz : z.fin.1 = 0
    · simp [Sy.Fit, Sy.nextA, Sy.okA, hz]
    · simp [Sy.Fit, Sy.nextA, Sy.okA, hz]
  | cons t r => simp [Sy.Fit, Sy.nextA, Sy.okA]
theorem prog_none {z : Sy.Env} (N : Nat) (hN : N ≠ 0) (hz : z.fin.1 ≠ 0) : Sy.progB z N [] = .error z.fin := by
  obtain ⟨M, rfl⟩ : ∃ M, N = M + 1 := ⟨N - 1, by omega⟩
  simp [Sy.progB, Sy.opsB, Sy.iteB, Sy.seesB, Sy.lookB, Sy.bnd, hz]
/-- Both read the same of every text. -/
theorem both_same (s : ByteArray) : Sy.parseB (rdEnv s) 4000 (rdTs s) = treeOf s := by
  by_cases hl : 3000 < s.size
  · have h1 : rdTs s = [] := by simp [rdTs, hl]
    have h2 : (rdEnv s).fin = (1, 0) := by simp [rdEnv, hl]
    rw [h1, parse_err (prog_none 4000 (by omega) (by rw [h2]; simp)), h2]
    simp [treeOf, hl]
  · have h1 : rdTs s = (Lx.toks s.size 0 s.data.toList).1 := by simp [rdTs, hl]
    have h2 : rdEnv s = envOf s := by simp [rdEnv, hl]
    have h3 : treeOf s = Sy.parseA (envOf s) 4000 (startOf s) := by simp [treeOf, hl]
    have hg : ∀ t ∈ rdTs s, Sy.Gd t := fun t ht => (rd_good s t ht).1
    rw [h3, h2]
    rw [h1] at hg ⊢
    exact (Sy.parse_same (by omega) (startOf s) _ hg (fit_start _)).symm
theorem bad_leaf {z : Sy.Env} {N : Nat} {s : Sy.RS} (h : (Sy.parseA z N s).2.1 ≠ 0) : (Sy.parseA z N s).1 = Sy.zT := by
  unfold Sy.parseA at h ⊢
  simp only at h ⊢
  generalize (if (Sy.okA (Sy.progA z N (Sy.nextA z s)).2 && (Sy.progA z N (Sy.nextA z s)).2.t.kind != 0) = true then Sy.noA (Sy.progA z N (Sy.nextA z s)).2 else (Sy.progA z N (Sy.nextA z s)).2) = u at h ⊢
  by_cases hc : Sy.okA u = true
  · rw [if_pos hc] at h
    exact absurd rfl h
  · rw [if_neg hc]
/-- How many nodes there can be. -/
theorem tree_nodes (s : ByteArray) : nodes (treeOf s).1 ≤ 6000 := by
  obtain ⟨N, hN0, e⟩ : ∃ N : Nat, N ≠ 0 ∧ treeOf s = if 3000 < s.size then (Sy.zT, (1, 0)) else Sy.parseA (envOf s) N ⟨Sy.zTk, (Lx.toks s.size 0 s.data.toList).1, (0, 0)⟩ := ⟨4000, by decide, rfl⟩
  have hz : nodes Sy.zT ≤ 6000 := by simp [Sy.zT, nodes, nodesL]
  rw [e]
  clear e
  by_cases hl : 3000 < s.size
  · rw [if_pos hl]
    exact hz
  · rw [if_neg hl]
    by_cases h0 : (Sy.parseA (envOf s) N ⟨Sy.zTk, (Lx.toks s.size 0 s.data.toList).1, (0, 0)⟩).2.1 = 0
    · have h1 := toksF_len (s.data.toList.length + 1) 0 s.data.toList
      have h2 : s.data.toList.length = s.size := size_len s
      have hk : ∀ t ∈ (Lx.toks s.size 0 s.data.toList).1, TokOne t := fun t ht => toks_one _ _ _ t ht
      have h3 : (Lx.toks s.size 0 s.data.toList).1.length ≤ 3000 := by
        unfold Lx.toks
        omega
      generalize (Lx.toks s.size 0 s.data.toList).1 = ts at h0 hk h3 ⊢
      obtain ⟨k1, k2, k3⟩ := tree_nice hN0 ts hk h0
      omega
    · rw [bad_leaf h0]
      exact hz

theorem in_law {w1 w2 : World} {T : Tr} {a : Option Addr} {l c : Nat} {fk fp : Nat} {t1 t2 : TypeId}
    (hw : Below ((w1.alloc (.cells #[.int .i64 T.kind, .int .i64 T.pos, .string ⟨T.name.toArray⟩, .int .i64 T.num, .slice a l c] t1)).alloc (.cells #[.int .i64 fk, .int .i64 fp] t2)).heap.size
      ((w1.alloc (.cells #[.int .i64 T.kind, .int .i64 T.pos, .string ⟨T.name.toArray⟩, .int .i64 T.num, .slice a l c] t1)).alloc (.cells #[.int .i64 fk, .int .i64 fp] t2)) w2) :
    Blk w2 w1.heap.size [.int .i64 T.kind, .int .i64 T.pos, .string ⟨T.name.toArray⟩, .int .i64 T.num, .slice a l c] ∧ Blk w2 (w1.heap.size + 1) [.int .i64 fk, .int .i64 fp] ∧ Below w1.heap.size w1 w2 ∧ w1.heap.size + 1 < w2.heap.size := by
  have hz := hw.size
  simp [Nat.add_one_le_iff] at hz
  have g1 : Blk ((w1.alloc (.cells #[.int .i64 T.kind, .int .i64 T.pos, .string ⟨T.name.toArray⟩, .int .i64 T.num, .slice a l c] t1)).alloc (.cells #[.int .i64 fk, .int .i64 fp] t2)) w1.heap.size [.int .i64 T.kind, .int .i64 T.pos, .string ⟨T.name.toArray⟩, .int .i64 T.num, .slice a l c] :=
    (Blk.new w1 [.int .i64 T.kind, .int .i64 T.pos, .string ⟨T.name.toArray⟩, .int .i64 T.num, .slice a l c] t1).alloc _
  have g2 := Blk.new (w1.alloc (.cells #[.int .i64 T.kind, .int .i64 T.pos, .string ⟨T.name.toArray⟩, .int .i64 T.num, .slice a l c] t1)) [.int .i64 fk, .int .i64 fp] t2
  rw [show (w1.alloc (.cells #[.int .i64 T.kind, .int .i64 T.pos, .string ⟨T.name.toArray⟩, .int .i64 T.num, .slice a l c] t1)).heap.size = w1.heap.size + 1 by simp] at g2
  exact ⟨g1.past hw, g2.past hw, (((Below.refl w1.heap.size w1).alloc (Nat.le_refl _) _).alloc (by simp) _).trans (hw.mono (by simp; omega)), by omega⟩

set_option maxRecDepth 100000 in
set_option maxHeartbeats 2000000 in
theorem parses_any (s : ByteArray) (w : World) (ev : Value) (hmax : s.size ≤ 140737488351232) (h2 : 2 < w.heap.size) (hv : w.cell? ⟨2, 0, none⟩ = some ev) (hev : ev = .nilIface ∨ ∃ te pe, ev = .iface te pe) :
    Calls Tryz.prog 3 #[.string s] w fun e w' => e = .returned (.bool true) ∧ Hid (Below w.heap.size w w') := by
  have hd := dparse s w ev hmax h2 hv hev
  rw [both_same s] at hd
  have HD := hid hd
  clear hd
  have HP := hid (fun (W : World) => rparse_any s W)
  have HTN := hid (tree_nodes s)
  generalize treeOf s = X at HP HTN HD
  obtain ⟨T, fk, fp⟩ := X
  go_enter Tryz.func3, Tryz.ntmps3
  go_wp2_with fail
  refine HD.out.mono ?_
  rintro e w1 ⟨a, l, c, rfl, HK1, HB1⟩
  go_wp2_with fail
  refine (HP.out _).mono ?_
  rintro e w2 ⟨a', l', c', rfl, HK2, HB2⟩
  obtain ⟨g0, g1, gB, gz⟩ := in_law HB2.out
  have GB := hid gB
  obtain ⟨⟨q0, q1, q2, q3, q4⟩, q5, q6, q7, q8, q9⟩ := blk5 g0
  have d0 := (g1 0 _ rfl).1
  have d1 := (g1 1 _ rfl).1
  have k0 : ¬ w1.heap.size = w2.heap.size := by omega
  have k1 : ¬ w1.heap.size = w2.heap.size + 1 := by omega
  have k2 : ¬ w1.heap.size + 1 = w2.heap.size := by omega
  have k3 : ¬ w1.heap.size + 1 = w2.heap.size + 1 := by omega
  have k4 : w1.heap.size < w2.heap.size := by omega
  have HS := hid (fun (W : World) (hW : Below w2.heap.size w2 W) => same_any 6000 T HTN.out (by omega) W _ _ a a' l c l' c'
    (HK1.out.carry (fun g _ hg => (hW.block g (by omega)).trans (GB.out.block g hg)) (fun _ h _ => h)) (HK2.out.carry (fun g _ hg => hW.block g hg) (fun _ h _ => h)))
  clear g0 g1 gB
  go_wp2_with (go_at_call 8; refine (HS.out _ (((Below.refl _ _).alloc (Nat.le_refl _) _).alloc (by simp) _)).mono ?_; rintro en w3 ⟨rfl, HB3⟩)
  refine bodyPost_ret (v := .bool true) (by simp [results, Tryz.results3, go_sem]) rfl ⟨rfl, hid ?_⟩
  have z1 := HB1.out.size
  have b1 : Below w.heap.size w w2 := HB1.out.trans (GB.out.mono z1)
  have z2 := b1.size
  exact ((b1.alloc z2 _).alloc (by simp; omega) _).trans (HB3.out.mono (by simp; omega))
end Go.Proofs.YtedppdcknkcbjaaGreatDoor
