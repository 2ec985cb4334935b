/-
  One node becomes another one.
  The program's Same.
  The program's Measure.
  The program's maps: what a number stands for (met); which number a pointer has (numbered).
-/
import Derived.Test.YtcogpcalghfghaaVe
set_option linter.unusedVariables false
set_option linter.unusedSimpArgs false
namespace Go.Proofs.Ytcogpcalghfghaa
open Go.RowKit
open Un (Bag Nm Gr)
variable {F : Nat → Prop}

/-- Nodes that were c are d now. -/
def Gx.link (X : Gx) (c d : Nat) : Gx := { X with root := fun i => if X.root i = c then d else X.root i, rk := fun i => if X.root i = c then X.rk i + X.rk d + 1 else X.rk i }
theorem XE.link (w : World) (X : Gx) (c d : Nat) : XE w X (X.link c d) := ⟨rfl, rfl, rfl, fun _ _ h => h, fun _ _ h => .inl h, fun _ _ => rfl⟩
theorem PG.linkG {w : World} {G H : Gr} {X : Gx} (h : PG w G X F) {c d : Nat} (hc : c < G.n) (hd : d < G.n) (rc : X.root c = c) (rd : X.root d = d) (hcd : c ≠ d)
    (hn : H.n = G.n) (hk : H.kind = G.kind) (hki : H.kids = G.kids) (ho : H.ops = G.ops) (hv : H.rv = G.rv) (hm : H.m = G.m) (hW : H.W = G.W)
    (h1 : ∀ i, i < G.n → H.rep (if X.root i = c then d else X.root i) = H.rep i)
    (h2 : ∀ i j, i < G.n → j < G.n → H.rep i = H.rep j → (if X.root i = c then d else X.root i) = (if X.root j = c then d else X.root j))
    (h3 : ∀ i, i < G.n → G.kind (H.rep i) ≠ 0 → (if X.root i = c then d else X.root i) = H.rep i) :
    PG (w.setCell ⟨X.pi c, 4, none⟩ (.pointer (some ⟨X.pi d, 0, none⟩))) H (X.link c d) F ∧ Ch (X.own G.n) w (w.setCell ⟨X.pi c, 4, none⟩ (.pointer (some ⟨X.pi d, 0, none⟩))) := by
  have hch : Ch (fun q => q = X.pi c) w (w.setCell ⟨X.pi c, 4, none⟩ (.pointer (some ⟨X.pi d, 0, none⟩))) := Ch.setCell w _ _ rfl
  have hO : Tg w (fun q => q = X.pi c) := h.tg.sub (fun q e => .inl ⟨c, hc, e.symm⟩)
  refine ⟨⟨fun k hk => Nat.lt_of_lt_of_le (h.F_lt k hk) hch.size, by rw [hn]; exact h.pi_inj, h.ps_inj, ?_, by rw [hn]; exact h1, by rw [hn]; exact h2, by rw [hn, hk]; exact h3, ?_, ?_, by rw [hm]; exact h.ps_lt, by rw [hW]; exact h.ps_W, by rw [hm, hW]; exact h.ps_no, by rw [hm]; exact h.mb⟩, hch.mono (fun q e => .inl ⟨c, hc, e.symm⟩)⟩
  · rw [hn]
    intro i hi
    show (if X.root i = c then d else X.root i) < G.n
    split
    · exact hd
    · exact h.root_lt i hi
  · rw [hn]
    intro i hi
    by_cases e : i = c
    · subst e
      obtain ⟨hf, av, ov, rp, up, b, g1, g2, g3, g4, g5, _, _⟩ := h.node i hi
      refine ⟨hf, av, ov, rp, some d, b, ?_, by rw [hki]; exact g2.keep hch hO, g3.keep hch hO, by rw [ho]; exact g4, by rw [hv]; exact g5, (fun e => by cases e), fun q e => ?_⟩
      · have e5 := blk_set (i := 4) (v := .pointer (some ⟨X.pi d, 0, none⟩)) g1
        rw [hk]
        exact e5
      · cases e
        refine ⟨by rw [hn]; exact hd, ?_, ?_⟩
        · show (if X.root d = i then d else X.root d) = (if X.root i = i then d else X.root i)
          rw [if_pos rc, rd, if_neg (fun e => hcd e.symm)]
        · show (if X.root d = i then X.rk d + X.rk d + 1 else X.rk d) < (if X.root i = i then X.rk i + X.rk d + 1 else X.rk i)
          rw [if_pos rc, rd, if_neg (fun e => hcd e.symm)]
          omega
    · obtain ⟨hf, av, ov, rp, up, b, g1, g2, g3, g4, g5, g6, g7⟩ := (h.node i hi).keep hch hO (fun e2 => e (h.pi_inj i c hi hc e2))
      refine ⟨hf, av, ov, rp, up, b, by rw [hk]; exact g1, by rw [hki]; exact g2, g3, by rw [ho]; exact g4, by rw [hv]; exact g5, fun hu => ?_, fun q hq => ?_⟩
      · have := g6 hu
        show (if X.root i = c then d else X.root i) = i
        rw [this, if_neg e]
      · obtain ⟨q1, q2, q3⟩ := g7 q hq
        refine ⟨by rw [hn]; exact q1, ?_, ?_⟩
        · show (if X.root q = c then d else X.root q) = (if X.root i = c then d else X.root i)
          rw [q2]
        · show (if X.root q = c then X.rk q + X.rk d + 1 else X.rk q) < (if X.root i = c then X.rk i + X.rk d + 1 else X.rk i)
          rw [q2]
          split <;> omega
  · intro r b hr
    obtain ⟨hf, up, g1, g2, g3⟩ := (h.rest r b hr).keep hch hO (fun e => h.apart hc (r := r) (by rw [← e]; exact hr))
    refine ⟨hf, up, g1, by rw [hW]; exact g2, fun q hq => ?_⟩
    obtain ⟨hfg, v, bg, nx, p, q1, q2, q3, q4, q5⟩ := g3 q hq
    refine ⟨hfg, v, bg, nx, p, q1, q2, q3, q4, ?_⟩
    rw [hW, q5]
    cases nx with
    | none => rfl
    | some s =>
      show (Un.joinB _ (G.W s).1, (G.W s).2) = (Un.joinB _ (H.W s).1, (H.W s).2)
      rw [hW]
/-- The first becomes the second, in the graph and in memory. -/
theorem PG.linkAB {w : World} {G : Gr} {X : Gx} (hG : G.OK) (h : PG w G X F) {a b : Nat} (ha : a < G.n) (hb : b < G.n) (hab : G.rep a ≠ G.rep b) :
    PG (w.setCell ⟨X.pi (X.root a), 4, none⟩ (.pointer (some ⟨X.pi (X.root b), 0, none⟩))) (G.link (G.rep a) (G.rep b)) (X.link (X.root a) (X.root b)) F ∧ Ch (X.own G.n) w (w.setCell ⟨X.pi (X.root a), 4, none⟩ (.pointer (some ⟨X.pi (X.root b), 0, none⟩))) := by
  have hr : ∀ i, i < G.n → (X.root i = X.root a ↔ G.rep i = G.rep a) := fun i hi => h.rep_root hi ha
  have key : ∀ i, (G.link (G.rep a) (G.rep b)).rep i = if G.rep i = G.rep a then G.rep b else G.rep i := fun i => rfl
  refine h.linkG (h.root_lt a ha) (h.root_lt b hb) (h.root_root ha) (h.root_root hb) (fun e => hab ((h.rep_root ha hb).1 e)) rfl rfl rfl rfl rfl rfl rfl (fun i hi => ?_) (fun i j hi hj e => ?_) (fun i hi e => ?_)
  · rw [key, key]
    by_cases e : X.root i = X.root a
    · rw [if_pos e, if_pos ((hr i hi).1 e), h.root_rep b hb]
      split <;> rfl
    · rw [if_neg e, h.root_rep i hi]
  · rw [key, key] at e
    by_cases e1 : X.root i = X.root a
    · rw [if_pos e1]
      rw [if_pos ((hr i hi).1 e1)] at e
      by_cases e2 : X.root j = X.root a
      · rw [if_pos e2]
      · rw [if_neg e2]
        rw [if_neg (fun e3 => e2 ((hr j hj).2 e3))] at e
        exact h.root_one b j hb hj e
    · rw [if_neg e1]
      rw [if_neg (fun e3 => e1 ((hr i hi).2 e3))] at e
      by_cases e2 : X.root j = X.root a
      · rw [if_pos e2]
        rw [if_pos ((hr j hj).1 e2)] at e
        exact h.root_one i b hi hb e
      · rw [if_neg e2]
        rw [if_neg (fun e3 => e2 ((hr j hj).2 e3))] at e
        exact h.root_one i j hi hj e
  · rw [key] at e ⊢
    by_cases e1 : X.root i = X.root a
    · rw [if_pos ((hr i hi).1 e1)] at e ⊢
      rw [if_pos e1]
      exact h.root_kind b hb e
    · rw [if_neg (fun e3 => e1 ((hr i hi).2 e3))] at e ⊢
      rw [if_neg e1]
      exact h.root_kind i hi e
/-- The first becomes the second in the graph, the second the first in memory: the second is a variable. -/
theorem PG.linkBA {w : World} {G : Gr} {X : Gx} (hG : G.OK) (h : PG w G X F) {a b : Nat} (ha : a < G.n) (hb : b < G.n) (hab : G.rep a ≠ G.rep b) (hk : G.kind (G.rep b) = 0) :
    PG (w.setCell ⟨X.pi (X.root b), 4, none⟩ (.pointer (some ⟨X.pi (X.root a), 0, none⟩))) (G.link (G.rep a) (G.rep b)) (X.link (X.root b) (X.root a)) F ∧ Ch (X.own G.n) w (w.setCell ⟨X.pi (X.root b), 4, none⟩ (.pointer (some ⟨X.pi (X.root a), 0, none⟩))) := by
  have hra : ∀ i, i < G.n → (X.root i = X.root a ↔ G.rep i = G.rep a) := fun i hi => h.rep_root hi ha
  have hr : ∀ i, i < G.n → (X.root i = X.root b ↔ G.rep i = G.rep b) := fun i hi => h.rep_root hi hb
  have key : ∀ i, (G.link (G.rep a) (G.rep b)).rep i = if G.rep i = G.rep a then G.rep b else G.rep i := fun i => rfl
  refine h.linkG (h.root_lt b hb) (h.root_lt a ha) (h.root_root hb) (h.root_root ha) (fun e => hab ((h.rep_root hb ha).1 e).symm) rfl rfl rfl rfl rfl rfl rfl (fun i hi => ?_) (fun i j hi hj e => ?_) (fun i hi e => ?_)
  · rw [key, key]
    by_cases e : X.root i = X.root b
    · rw [if_pos e, h.root_rep a ha, if_pos rfl, (hr i hi).1 e]
      split <;> rfl
    · rw [if_neg e, h.root_rep i hi]
  · rw [key, key] at e
    have hh : ∀ q, q < G.n → (if G.rep q = G.rep a then G.rep b else G.rep q) = G.rep b → (if X.root q = X.root b then X.root a else X.root q) = X.root a := fun q hq eq => by
      by_cases e1 : X.root q = X.root b
      · rw [if_pos e1]
      · rw [if_neg e1]
        by_cases e2 : G.rep q = G.rep a
        · exact (hra q hq).2 e2
        · rw [if_neg e2] at eq
          exact absurd ((hr q hq).2 eq) e1
    by_cases e1 : (if G.rep i = G.rep a then G.rep b else G.rep i) = G.rep b
    · rw [hh i hi e1, hh j hj (e.symm.trans e1)]
    · have n1 : ¬ G.rep i = G.rep a := fun e2 => e1 (if_pos e2)
      have n2 : ¬ G.rep j = G.rep a := fun e2 => e1 (e.trans (if_pos e2))
      rw [if_neg n1] at e e1
      rw [if_neg n2] at e
      rw [if_neg (fun e2 => e1 ((hr i hi).1 e2)), if_neg (fun e2 => e1 (e.trans ((hr j hj).1 e2)))]
      exact h.root_one i j hi hj e
  · rw [key] at e ⊢
    by_cases e1 : G.rep i = G.rep a
    · rw [if_pos e1] at e
      exact absurd hk e
    · rw [if_neg e1] at e ⊢
      by_cases e2 : X.root i = X.root b
      · rw [(hr i hi).1 e2] at e
        exact absurd hk e
      · rw [if_neg e2]
        exact h.root_kind i hi e
theorem info_node : ∃ j, Try.prog.info? 78 = some j ∧ j.size ≠ 0 := by
  have h : (Try.prog.info? 78).map (·.size) = some 7 := by kernel_rfl
  obtain ⟨j, hj, e⟩ := Option.map_eq_some_iff.1 h
  exact ⟨j, hj, by rw [e]; decide⟩
theorem eq_node_same (x : Nat) (w : World) : Sem.run Try.prog (binOp BinOp.eql 61 (.pointer (some ⟨x, 0, none⟩)) (.pointer (some ⟨x, 0, none⟩))) w = .ok (.bool true) w := by
  obtain ⟨j, hj, _⟩ := info_node
  exact run_eql_ptr_same w _ Try.underlying61 hj
theorem eq_node_other {x y : Nat} {w : World} {cs ds : Array Value} {T U : TypeId} (h : x ≠ y) (hx : w.heap[x]? = some (.cells cs T (0, 0))) (hy : w.heap[y]? = some (.cells ds U (0, 0))) : Sem.run Try.prog (binOp BinOp.eql 61 (.pointer (some ⟨x, 0, none⟩)) (.pointer (some ⟨y, 0, none⟩))) w = .ok (.bool false) w := by
  obtain ⟨j, hj, hz⟩ := info_node
  exact run_eql_ptr_other w Try.underlying61 hj hz (fun e => h (by cases e; rfl)) hx hy
/-- What was done of an earlier graph, done of a later one. -/
theorem SrP.after {G H : Gr} {X Y : Gx} {w w1 w2 : World} {S : Option Gr} {e : Ending} (hx : XE w X Y) (hc : Ch (X.own G.n) w w1) (hn : H.n = G.n) (h : SrP H Y F w1 S e w2) : SrP G X F w S e w2 := by
  obtain ⟨h1, h2, h3⟩ := h
  refine ⟨h1, fun K hK => ?_, hc.trans h3 (fun k hk => hx.own (by rw [← hn]; exact hk))⟩
  obtain ⟨e1, Z, z1, z2⟩ := h2 K hK
  exact ⟨e1, Z, z1, hx.trans z2 hc.size⟩
/-- A node's cells. -/
theorem node_cells {w : World} {b : Nat} {k av ov rp up rd pt : Value} (h : w.heap[b]? = some (.cells #[k, av, ov, rp, up, rd, pt] 78 (0, 0))) :
    w.cell? ⟨b, 0, none⟩ = some k ∧ w.cell? ⟨b, 1, none⟩ = some av ∧ w.cell? ⟨b, 2, none⟩ = some ov ∧ w.cell? ⟨b, 3, none⟩ = some rp ∧ w.cell? ⟨b, 4, none⟩ = some up ∧ w.cell? ⟨b, 5, none⟩ = some rd ∧ w.cell? ⟨b, 6, none⟩ = some pt :=
  ⟨by rw [cellB h]; rfl, by rw [cellB h]; rfl, by rw [cellB h]; rfl, by rw [cellB h]; rfl, by rw [cellB h]; rfl, by rw [cellB h]; rfl, by rw [cellB h]; rfl⟩
end Go.Proofs.Ytcogpcalghfghaa

namespace Go.Proofs.Ytcogpcalghfghaa
open Go.RowKit
open Un (Bag Nm Gr)
variable {F : Nat → Prop}

theorem ArgsT.at {w : World} {a : Option Addr} {n c : Nat} {bs : List Nat} (h : ArgsT w F (.slice a n c) bs) {i b : Nat} (hb : bs[i]? = some b) : ∃ g o, a = some ⟨g, o, none⟩ ∧ w.cell? ⟨g, o + i, none⟩ = some (.pointer (some ⟨b, 0, none⟩)) := by
  obtain ⟨a', c', e, h1⟩ := h.sl
  cases e
  obtain ⟨g, o, rfl, h2⟩ := h1 (fun e => by rw [e] at hb; cases hb)
  exact ⟨g, o, rfl, h2 i b hb⟩
def PSameOK (T : Nat) (F : Nat → Prop) (k : Nat) : Prop := ∀ (w : World) (G : Gr) (X : Gx) (a b : Nat), PG w G X F → G.OK → G.Bd T → a < G.n → b < G.n → G.roots < k →
  Calls Try.prog 18 #[.pointer (some ⟨X.pi a, 0, none⟩), .pointer (some ⟨X.pi b, 0, none⟩)] w fun e w' => SrP G X F w (Gr.uni k G a b) e w'
theorem SrP.yes {G H : Gr} {X Y : Gx} {w w' : World} {S : Option Gr} (hS : S = some H) (hp : PG w' H Y F) (hx : XE w X Y) (hc : Ch (X.own G.n) w w') : SrP G X F w S (.returned (.bool true)) w' :=
  ⟨(fun e => by rw [hS] at e; cases e), (fun K e => by rw [hS] at e; cases e; exact ⟨rfl, Y, hp, hx⟩), hc⟩
theorem SrP.no {G : Gr} {X : Gx} {w w' : World} {S : Option Gr} (hS : S = none) (hc : Ch (X.own G.n) w w') : SrP G X F w S (.returned (.bool false)) w' :=
  ⟨(fun _ => rfl), (fun K e => by rw [hS] at e; cases e), hc⟩
theorem SrP.bool {G : Gr} {X : Gx} {w w' : World} {S : Option Gr} {e : Ending} (h : SrP G X F w S e w') : ∃ b : Bool, e = .returned (.bool b) := by
  cases hS : S with
  | none => exact ⟨false, h.1 hS⟩
  | some H => exact ⟨true, (h.2.1 H hS).1⟩
theorem uni_eq {k : Nat} {G : Gr} {a b : Nat} (h : G.rep a = G.rep b) : Gr.uni (k + 1) G a b = some G := by
  rw [Gr.uni]; exact if_pos h
theorem uni_va {k : Nat} {G : Gr} {a b : Nat} (h : G.rep a ≠ G.rep b) (ha : G.kind (G.rep a) = 0) : Gr.uni (k + 1) G a b = some (G.link (G.rep a) (G.rep b)) := by
  rw [Gr.uni, if_neg h, if_pos ha]
theorem uni_vb {k : Nat} {G : Gr} {a b : Nat} (h : G.rep a ≠ G.rep b) (ha : G.kind (G.rep a) ≠ 0) (hb : G.kind (G.rep b) = 0) : Gr.uni (k + 1) G a b = some (G.link (G.rep b) (G.rep a)) := by
  rw [Gr.uni, if_neg h, if_neg ha, if_pos hb]
theorem uni_ne {k : Nat} {G : Gr} {a b : Nat} (h : G.rep a ≠ G.rep b) (ha : G.kind (G.rep a) ≠ 0) (hb : G.kind (G.rep b) ≠ 0) (hk : G.kind (G.rep a) ≠ G.kind (G.rep b)) : Gr.uni (k + 1) G a b = none := by
  rw [Gr.uni, if_neg h, if_neg ha, if_neg hb, if_pos hk]
theorem uni_go {k : Nat} {G : Gr} {a b : Nat} (h : G.rep a ≠ G.rep b) (ha : G.kind (G.rep a) ≠ 0) (hb : G.kind (G.rep b) ≠ 0) (hk : G.kind (G.rep a) = G.kind (G.rep b)) : Gr.uni (k + 1) G a b = (Gr.each (Gr.uni k) (G.kids (G.rep a)) (G.kids (G.rep b)) (G.link (G.rep a) (G.rep b))).bind fun H => H.sameRow (G.rep a) (G.rep b) := by
  rw [Gr.uni, if_neg h, if_neg ha, if_neg hb, if_neg (fun e => e hk)]

set_option maxRecDepth 100000 in
set_option maxHeartbeats 8000000 in
theorem psame_step {T : Nat} (hT : T < 100000000) {k : Nat} (ih : PSameOK T F k) : PSameOK T F (k + 1) := by
  intro w G X a b h hG hB ha hb hrt
  have HA := Now_any w G X a h ha
  have hla := h.root_lt a ha
  have hlb := h.root_lt b hb
  have hka := h.kind_root hG ha
  have hkb := h.kind_root hG hb
  have hrr := h.rep_root ha hb
  have hta := h.root_kind a ha
  have htb := h.root_kind b hb
  replace h := hid h
  replace hG := hid hG
  replace hB := hid hB
  replace hrr := hid hrr
  replace hka := hid hka
  replace hkb := hid hkb
  replace hta := hid hta
  replace htb := hid htb
  replace hrt := hid hrt
  replace ih := hid ih
  go_enter Try.func18, Try.ntmps18
  go_upto_region 2 with (first
    | (go_at_call 27; refine HA.mono ?_; clear HA; rintro e w1 ⟨rfl, hP1, hc1⟩; have HB := Now_any w1 G X b hP1 hb; replace hP1 := hid hP1; replace hc1 := hid hc1)
    | (go_at_call 27; refine HB.mono ?_; clear HB; rintro e w2 ⟨rfl, hP2, hc2⟩; replace hP2 := hid hP2; replace hc2 := hid hc2))
  have hc := hid (hc1.out.trans hc2.out (fun _ h => .inl h))
  clear hP1 hc1 hc2
  obtain ⟨-, ava, ova, rpa, upa, bga, hna, hAa, hOa, hFa, hRa, -, -⟩ := hP2.out.node _ hla
  obtain ⟨-, avb, ovb, rpb, upb, bgb, hnb, hAb, hOb, hFb, hRb, -, -⟩ := hP2.out.node _ hlb
  obtain ⟨a0, a1, a2, a3, a4, -, -⟩ := node_cells hna
  obtain ⟨b0, b1, b2, b3, b4, -, -⟩ := node_cells hnb
  have fa := frozenB hna 4
  have fb := frozenB hnb 4
  by_cases hab : X.root a = X.root b
  · have hrep := hrr.out.1 hab
    have hbe := eq_node_same (X.pi (X.root b)) w2
    rw [hab] at *
    clear a0 a1 a2 a3 a4 b0 b1 b2 b3 b4 fa fb hna hnb hAa hAb hOa hOb hRa hRb hFa hFb
    go_wp2
    go_ret
    exact SrP.yes (uni_eq hrep) hP2.out (XE.refl w X) hc.out
  · have hrep : G.rep a ≠ G.rep b := fun e => hab (hrr.out.2 e)
    have hbe := eq_node_other (fun e => hab (hP2.out.pi_inj _ _ hla hlb e)) hna hnb
    replace hrep := hid hrep
    replace hna := hid hna
    replace hnb := hid hnb
    replace hAa := hid hAa
    replace hAb := hid hAb
    replace hOa := hid hOa
    replace hOb := hid hOb
    replace hRa := hid hRa
    replace hRb := hid hRb
    replace hFa := hid hFa
    replace hFb := hid hFb
    by_cases hb0 : G.kind (X.root b) = 0
    · have kb0 : ((G.kind (X.root b) : Int) == 0) = true := by simp [hb0]
      have hb0' : G.kind (G.rep b) = 0 := by rw [← hkb.out]; exact hb0
      replace hb0 := hid hb0
      clear b0
      have b0 : w2.cell? ⟨X.pi (X.root b), 0, none⟩ = some (.int .i64 (G.kind (X.root b) : Nat)) := (node_cells hnb.out).1
      by_cases ha0 : G.kind (G.rep a) = 0
      · have hL := hid (hP2.out.linkBA hG.out ha hb hrep.out hb0')
        replace ha0 := hid ha0
        replace hb0' := hid hb0'
        go_wp2
        go_ret
        exact SrP.yes (uni_va hrep.out ha0.out) hL.out.1 (XE.link w X _ _) (hc.out.trans hL.out.2 (fun _ h => .inl h))
      · have hL := hid (hP2.out.linkAB hG.out hb ha (fun e => hrep.out e.symm))
        replace ha0 := hid ha0
        replace hb0' := hid hb0'
        go_wp2
        go_ret
        exact SrP.yes (uni_vb hrep.out ha0.out hb0'.out) hL.out.1 (XE.link w X _ _) (hc.out.trans hL.out.2 (fun _ h => .inl h))
    · have kb0 : ((G.kind (X.root b) : Int) == 0) = false := by rw [beq_eq_false_iff_ne]; omega
      have hb0' : G.kind (G.rep b) ≠ 0 := by rw [← hkb.out]; exact hb0
      replace hb0 := hid hb0
      replace hb0' := hid hb0'
      by_cases ha0 : G.kind (X.root a) = 0
      · have ka0 : ((G.kind (X.root a) : Int) == 0) = true := by simp [ha0]
        have ha0' : G.kind (G.rep a) = 0 := by rw [← hka.out]; exact ha0
        have hL := hid (hP2.out.linkAB hG.out ha hb hrep.out)
        replace ha0 := hid ha0
        replace ha0' := hid ha0'
        clear a0
        have a0 : w2.cell? ⟨X.pi (X.root a), 0, none⟩ = some (.int .i64 (G.kind (X.root a) : Nat)) := (node_cells hna.out).1
        go_wp2
        go_ret
        exact SrP.yes (uni_va hrep.out ha0'.out) hL.out.1 (XE.link w X _ _) (hc.out.trans hL.out.2 (fun _ h => .inl h))
      · have ka0 : ((G.kind (X.root a) : Int) == 0) = false := by rw [beq_eq_false_iff_ne]; omega
        have ha0' : G.kind (G.rep a) ≠ 0 := by rw [← hka.out]; exact ha0
        replace ha0 := hid ha0
        replace ha0' := hid ha0'
        go_upto_region 10 with (fail)
        have hcd := Ch.drew (fun _ => False) w2
        have hS0 : w2.drew.cell? ⟨X.pi (X.root a), 0, none⟩ = some (.int .i64 (G.kind (X.root a) : Nat)) ∧ w2.drew.cell? ⟨X.pi (X.root b), 0, none⟩ = some (.int .i64 (G.kind (X.root b) : Nat)) := ⟨a0, b0⟩
        refine wp_region_held_drew (S := (fun w' => w'.cell? ⟨X.pi (X.root a), 0, none⟩ = some (.int .i64 (G.kind (X.root a) : Nat)) ∧ w'.cell? ⟨X.pi (X.root b), 0, none⟩ = some (.int .i64 (G.kind (X.root b) : Nat)))) (by kernel_rfl) (by first | trivial | ((try dsimp only); go_keep)) (fun hHeld => ?_)
        refine wpAnyH_take (i := 0) (v := ?vvp1) rfl (by kernel_rfl) (by kernel_rfl) (by kernel_rfl) (fun _ _ _ h => h) (Or.inl ⟨by rfl, ?yyp1⟩) (by assumption) ?rrp1
        case yyp1 => (intro w' hSw; (try dsimp only at hSw); go_simp; (try with_reducible rfl))
        try simp only [Act.put, List.setIfInBounds_toArray, List.set_cons_zero, List.set_cons_succ]
        refine wpAnyH_take (i := 1) (v := ?vvp2) rfl (by kernel_rfl) (by kernel_rfl) (by kernel_rfl) (fun _ _ _ h => h) (Or.inl ⟨by rfl, ?yyp2⟩) (by assumption) ?rrp2
        case yyp2 => (intro w' hSw; (try dsimp only at hSw); go_simp; (try with_reducible rfl))
        try simp only [Act.put, List.setIfInBounds_toArray, List.set_cons_zero, List.set_cons_succ]
        refine wpAnyH_take (i := 2) (v := ?vvp3) rfl (by kernel_rfl) (by kernel_rfl) (by kernel_rfl) (fun _ _ _ h => h) (Or.inl ⟨by rfl, ?yyp3⟩) (by assumption) ?rrp3
        case yyp3 => (intro w' hSw; (try dsimp only at hSw); go_simp; (try with_reducible rfl))
        try simp only [Act.put, List.setIfInBounds_toArray, List.set_cons_zero, List.set_cons_succ]
        refine wpAnyH_take (i := 3) (v := ?vvp4) rfl (by kernel_rfl) (by kernel_rfl) (by kernel_rfl) (fun _ _ _ h => h) (Or.inl ⟨by rfl, ?yyp4⟩) (by assumption) ?rrp4
        case yyp4 => (intro w' hSw; (try dsimp only at hSw); go_simp; (try with_reducible rfl))
        try simp only [Act.put, List.setIfInBounds_toArray, List.set_cons_zero, List.set_cons_succ]
        refine wpAnyH_take (i := 4) (v := ?vvp5) rfl (by kernel_rfl) (by kernel_rfl) (by kernel_rfl) (fun _ _ _ h => h) (Or.inl ⟨by rfl, ?yyp5⟩) (by assumption) ?rrp5
        case yyp5 => (intro w' hSw; (try dsimp only at hSw); go_simp; (try with_reducible rfl))
        try simp only [Act.put, List.setIfInBounds_toArray, List.set_cons_zero, List.set_cons_succ]
        refine wpAnyH_take (i := 5) (v := ?vvp6) rfl (by kernel_rfl) (by kernel_rfl) (by kernel_rfl) (fun _ _ _ h => h) (Or.inl ⟨by rfl, ?yyp6⟩) (by assumption) ?rrp6
        case yyp6 => (intro w' hSw; (try dsimp only at hSw); go_simp; (try with_reducible rfl))
        try simp only [Act.put, List.setIfInBounds_toArray, List.set_cons_zero, List.set_cons_succ]
        refine wpAnyH_take (i := 6) (v := ?vvp7) rfl (by kernel_rfl) (by kernel_rfl) (by kernel_rfl) (fun _ _ _ h => h) (Or.inl ⟨by rfl, ?yyp7⟩) (by assumption) ?rrp7
        case yyp7 => (intro w' hSw; (try dsimp only at hSw); go_simp; (try with_reducible rfl))
        try simp only [Act.put, List.setIfInBounds_toArray, List.set_cons_zero, List.set_cons_succ]
        refine wpAnyH_take (i := 7) (v := ?vvp8) rfl (by kernel_rfl) (by kernel_rfl) (by kernel_rfl) (fun _ _ _ h => h) (Or.inl ⟨by rfl, ?yyp8⟩) (by assumption) ?rrp8
        case yyp8 => (intro w' hSw; (try dsimp only at hSw); go_simp; (try with_reducible rfl))
        try simp only [Act.put, List.setIfInBounds_toArray, List.set_cons_zero, List.set_cons_succ]
        refine wpAnyH_take (i := 8) (v := ?vvp9) rfl (by kernel_rfl) (by kernel_rfl) (by kernel_rfl) (fun _ _ _ h => h) (Or.inl ⟨by rfl, ?yyp9⟩) (by assumption) ?rrp9
        case yyp9 => (intro w' hSw; (try dsimp only at hSw); go_simp; (try with_reducible rfl))
        try simp only [Act.put, List.setIfInBounds_toArray, List.set_cons_zero, List.set_cons_succ]
        refine wpAnyH_ready (rs := [9]) (by kernel_rfl) (by simp) (AllReadyH.cons rfl (fun K hK => ?_) AllReadyH.nil)
        go_simp
        have hS5 := hS0
        clear hHeld
        refine hK.out _ _ ?hs (fun hHeld => ?_)
        case hs => (first | exact hS5 | trivial | ((try dsimp only); go_keep) | ((try dsimp only); simp [*, World.cell?_alloc_some, World.cell?_setCell_far, World.cell?_setCell_other]))
        clear hK K
        try simp only [Act.put, List.setIfInBounds_toArray, List.set_cons_zero, List.set_cons_succ]
        refine wpAnyH_done (by kernel_rfl) ?_ _
        clear hHeld
        clear hS0
        have hP3 := hid (hP2.out.quiet hcd)
        have hc3 := hid (hc.out.trans hcd (fun _ h => h.elim))
        have hAa3 := hid (hAa.out.on hcd (fun _ _ h => h))
        have a1' : w2.drew.cell? ⟨X.pi (X.root a), 1, none⟩ = some ava := a1
        have a4' : w2.drew.cell? ⟨X.pi (X.root a), 4, none⟩ = some (oP (upa.map X.pi)) := a4
        have fa' : w2.drew.frozen? ⟨X.pi (X.root a), 4, none⟩ = false := fa
        have hna3 : Hid (w2.drew.heap[X.pi (X.root a)]? = _) := hid hna.out
        clear a0 a1 a2 a3 a4 b0 b1 b2 b3 b4 fa fb hP2 hc hAa hcd hnb hAb hOa hOb hRa hRb hFa hFb hna hbe ka0 kb0
        generalize w2.drew = w3 at *
        by_cases hkk : G.kind (X.root a) = G.kind (X.root b)
        · have kk : ((G.kind (X.root a) : Int) != (G.kind (X.root b) : Int)) = false := by simp [hkk]
          rw [kk]
          have hkk' : G.kind (G.rep a) = G.kind (G.rep b) := by rw [← hka.out, ← hkb.out]; exact hkk
          have hL := hP3.out.linkAB hG.out ha hb hrep.out
          have era := hid (hta.out ha0'.out)
          have erb := hid (htb.out hb0'.out)
          replace hL := hid hL
          replace hkk := hid hkk
          replace hkk' := hid hkk'
          go_upto_region 13 with (fail)
          have hg4 := hid (hna3.out)
          have hP4 := hid hL.out.1
          have hc4 := hid (hc3.out.trans hL.out.2 (fun _ h => .inl h))
          have hcs : Ch (fun q => q = X.pi (X.root a)) w3 (w3.setCell ⟨X.pi (X.root a), 4, none⟩ (.pointer (some ⟨X.pi (X.root b), 0, none⟩))) := Ch.setCell w3 _ _ rfl
          have hAa4 := hid (hAa3.out.keep hcs (hP3.out.tg.sub (fun q e => .inl ⟨_, hla, e.symm⟩)))
          have a1'' : (w3.setCell ⟨X.pi (X.root a), 4, none⟩ (.pointer (some ⟨X.pi (X.root b), 0, none⟩))).cell? ⟨X.pi (X.root a), 1, none⟩ = some ava := by rw [cellB (blk_set hna3.out)]; rfl
          clear a1' a4' fa' hcs hL hna3 hg4 hAa3 hP3 hc3
          generalize w3.setCell ⟨X.pi (X.root a), 4, none⟩ (.pointer (some ⟨X.pi (X.root b), 0, none⟩)) = w4 at *
          obtain ⟨sa, cca, hva, -⟩ := hAa4.out.sl
          have hG1 := hid (Gr.link_ok hG.out (hG.out.rep_lt b hb) (hG.out.rep_rep a ha) (hG.out.rep_rep b hb) hrep.out (.inr hkk'.out))
          have hB1 := hid (Gr.link_bd (a := G.rep a) (b := G.rep b) hB.out)
          have hrt1 := hid (Nat.lt_of_lt_of_le (Gr.link_roots (hG.out.rep_lt a ha) (hG.out.rep_rep a ha) (hG.out.rep_rep b hb) hrep.out) (Nat.le_of_lt_succ hrt.out))
          have hklen : (G.kids (X.root a)).length = (G.kids (X.root b)).length := by rw [hG.out.kids_len _ hla, hG.out.kids_len _ hlb, hkk.out]
          subst hva
          rw [List.length_map] at *
          have hkl2 : (G.kids (X.root a)).length ≤ 2 := by
            rw [hG.out.kids_len _ hla]
            unfold Gr.arity
            split
            · omega
            · split <;> omega
          have hG1n : (G.link (G.rep a) (G.rep b)).n = G.n := rfl
          obtain ⟨G1, hG1e⟩ : ∃ G1, G1 = G.link (G.rep a) (G.rep b) := ⟨_, rfl⟩
          rw [← hG1e] at hP4 hG1 hB1 hrt1 hG1n
          have hx1 := hid (XE.link w X (X.root a) (X.root b))
          generalize X.link (X.root a) (X.root b) = X1 at *
          have huni := hid (uni_go (k := k) hrep.out ha0'.out hb0'.out hkk'.out)
          rw [← hG1e, ← era.out, ← erb.out] at huni
          replace hG1e := hid hG1e
          have hkA := hid (fun j hj => hG.out.kids_lt _ hla j hj)
          have hkB := hid (fun j hj => hG.out.kids_lt _ hlb j hj)
          generalize hlA : G.kids (X.root a) = lA at *
          generalize hlB : G.kids (X.root b) = lB at *
          replace hlA := hid hlA
          replace hlB := hid hlB
          have hG1' := hG1.out
          replace hG1' := hid hG1'
          go_wp2
          go_loopg [54] (lA.length + 1) (fun q v54 wr => ∃ (i : Nat) (Gi : Gr) (Xi : Gx), v54 = .int .i64 (i : Nat) ∧ i ≤ lA.length ∧ q = lA.length + 1 - i ∧ Hid (PG wr Gi Xi F) ∧ Hid (Gi.OK ∧ Gi.Bd T ∧ Gi.roots < k ∧ Gr.Ext G1 Gi) ∧ Hid (XE w X Xi) ∧ Hid (Ch (X.own G.n) w wr) ∧ Hid (Gr.each (Gr.uni k) lA lB G1 = Gr.each (Gr.uni k) (lA.drop i) (lB.drop i) Gi) ∧ Hid (ArgsT wr F (.slice sa lA.length cca) (lA.map X.pi)))
          case atStart => exact ⟨0, G1, X1, rfl, by omega, by omega, hP4, hid ⟨hG1.out, hB1.out, hrt1.out, Gr.Ext.refl hG1.out⟩, hx1, hc4, hid (by simp), hAa4⟩
          case round =>
            clear hP4 hc4 hAa4 a1'' hG1 hB1 hrt1 hx1
            obtain ⟨i, Gi, Xi, rfl, hi, rfl, hP, hGi, hx, hc, hea, hA⟩ := hrel
            have hGin : Gi.n = G.n := by rw [hGi.out.2.2.2.n]; exact hG1n
            have hpi := hx.out.pi
            by_cases e : i < lA.length
            · have i0 : (0 : Int) ≤ i := by omega
              have i1 : (i : Int) < (lA.length : Int) := by omega
              have hwi : IntKind.i64.wrap ((i : Int) + 1) = (i : Int) + 1 := IntWalk.i64_in _ (by omega)
              obtain ⟨ka, hka1⟩ : ∃ x, lA[i]? = some x := ⟨lA[i], by simp⟩
              obtain ⟨kb, hkb1⟩ : ∃ x, lB[i]? = some x := ⟨lB[i]'(by omega), by simp⟩
              have hkan := hkA.out ka (List.mem_of_getElem? hka1)
              have hkbn := hkB.out kb (List.mem_of_getElem? hkb1)
              obtain ⟨g, o, hsg, ce⟩ := hA.out.at (i := i) (b := X.pi ka) (by rw [List.getElem?_map, hka1]; rfl)
              subst hsg
              obtain ⟨-, avb', ovb', rpb', upb', bgb', hnb', hAb', -⟩ := hP.out.node (X.root b) (by rw [hGin]; exact hlb)
              rw [hpi] at hnb' hAb'
              have hkG : Gi.kids (X.root b) = lB := by rw [hGi.out.2.2.2.kids, hG1e.out, ← hlB.out]; rfl
              rw [hkG] at hAb'
              obtain ⟨sb, ccb, hvb, -⟩ := hAb'.sl
              subst hvb
              rw [List.length_map, ← hklen] at hAb' hnb'
              obtain ⟨gb, ob, hsgb, ceb⟩ := hAb'.at (i := i) (b := X.pi kb) (by rw [List.getElem?_map, hkb1]; rfl)
              subst hsgb
              have b1 := (node_cells hnb').2.1
              have HS := ih.out wr Gi Xi ka kb hP.out hGi.out.1 hGi.out.2.1 (by rw [hGin]; exact hkan) (by rw [hGin]; exact hkbn) hGi.out.2.2.1
              rw [hpi] at HS
              replace hpi := hid hpi
              have hdA : lA.drop i = ka :: lA.drop (i + 1) := by
                obtain ⟨h1, h2⟩ := List.getElem?_eq_some_iff.1 hka1
                rw [← h2]; exact (List.drop_eq_getElem_cons h1)
              have hdB : lB.drop i = kb :: lB.drop (i + 1) := by
                obtain ⟨h1, h2⟩ := List.getElem?_eq_some_iff.1 hkb1
                rw [← h2]; exact (List.drop_eq_getElem_cons h1)
              have hstep : Gr.each (Gr.uni k) lA lB G1 = (Gr.uni k Gi ka kb).bind (Gr.each (Gr.uni k) (lA.drop (i + 1)) (lB.drop (i + 1))) := by rw [hea.out, hdA, hdB]; rfl
              replace hka1 := hid hka1
              replace hkb1 := hid hkb1
              replace hdA := hid hdA
              replace hdB := hid hdB
              replace hkG := hid hkG
              clear hnb' hAb'
              cases hu : Gr.uni k Gi ka kb with
              | none =>
                rw [hu] at hstep
                replace hu := hid hu
                replace hstep := hid hstep
                go_wp2_with (go_at_call 18; refine HS.mono ?_; clear HS; rintro e w5 ⟨h1, h2, h3⟩; obtain rfl := h1 hu.out; clear h1 h2; replace h3 := hid h3)
                go_ret
                refine SrP.no (by rw [huni.out, hstep.out]; rfl) (hc.out.trans h3.out (fun q hq => hx.out.own (by rw [← hGin]; exact hq)))
              | some H =>
                rw [hu] at hstep
                obtain ⟨u1, u2⟩ := Gr.uni_ok k Gi ka kb H hGi.out.1 (by rw [hGin]; exact hkan) (by rw [hGin]; exact hkbn) hu
                have u3 := hid (Gr.uni_bd k Gi ka kb H hGi.out.1 hGi.out.2.1 (by rw [hGin]; exact hkan) (by rw [hGin]; exact hkbn) hu)
                replace u1 := hid u1
                replace u2 := hid u2
                replace hu := hid hu
                replace hstep := hid hstep
                go_wp2_with (go_at_call 18; refine HS.mono ?_; clear HS; rintro e w5 ⟨h1, h2, h3⟩; obtain ⟨rfl, Y, y1, y2⟩ := h2 H hu.out; clear h1 h2; replace h3 := hid h3; replace y1 := hid y1; replace y2 := hid y2)
                go_roundg (lA.length - i)
                case measure => omega
                case rel => exact ⟨i + 1, H, Y, by simp, by omega, by omega, y1, hid ⟨u1.out, u3.out, Nat.lt_of_le_of_lt u2.out.roots hGi.out.2.2.1, Gr.Ext.trans hG1'.out hGi.out.2.2.2 u2.out⟩, hid (hx.out.trans y2.out hc.out.size), hid (hc.out.trans h3.out (fun q hq => hx.out.own (by rw [← hGin]; exact hq))), hid hstep.out, hid (hA.out.keep h3.out hP.out.tg)⟩
            · obtain rfl : i = lA.length := by omega
              have i1 : ¬ (lA.length : Int) < (lA.length : Int) := by omega
              have hall : Gr.each (Gr.uni k) lA lB G1 = some Gi := by
                rw [hea.out, List.drop_eq_nil_of_le (Nat.le_refl _)]
                rfl
              replace hall := hid hall
              obtain ⟨-, ava', ova', rpa', upa', bga', hna', -, hOa', hFa', hRa', -⟩ := hP.out.node (X.root a) (by rw [hGin]; exact hla)
              obtain ⟨-, avb', ovb', rpb', upb', bgb', hnb', -, hOb', hFb', hRb', -⟩ := hP.out.node (X.root b) (by rw [hGin]; exact hlb)
              rw [hpi] at hna' hnb'
              obtain ⟨-, -, m2, m3, -⟩ := node_cells hna'
              obtain ⟨-, -, l2, l3, -⟩ := node_cells hnb'
              obtain ⟨sa', ca', hoa, -⟩ := id hOa'.bv
              obtain ⟨sb', cb', hob, -⟩ := id hOb'.bv
              subst hoa hob
              go_upto_region 19 with (fail)
              have hdn : ∀ q, Ch (fun _ => False) wr (wr.drewN q) := fun q => (Ch.refl _ _).dn q
              have HR : ∀ q, Calls Try.prog 28 #[.agg #[.slice sa' bga'.length ca', oP rpa'], .agg #[.slice sb' bgb'.length cb', oP rpb']] (wr.drewN q) fun e w' => SrP Gi Xi F (wr.drewN q) (Gi.sameRow (X.root a) (X.root b)) e w' := fun q => by
                have HR := SameRow_any hT hGi.out.1 (hP.out.quiet (hdn q)) (hOa'.quiet (hdn q)) (hOb'.quiet (hdn q)) hRa' hRb' (by rw [hFa', ← Gr.whole_wh]; exact hGi.out.2.1.whole (by rw [hGin]; exact hla)) (by rw [hFb', ← Gr.whole_wh]; exact hGi.out.2.1.whole (by rw [hGin]; exact hlb))
                rw [hFa', hFb', ← Gr.whole_wh, ← Gr.whole_wh, ← Gr.sameRow_W] at HR
                exact HR
              have hsu : Hid (Gr.uni (k + 1) G a b = Gi.sameRow (X.root a) (X.root b)) := by
                unfold Hid
                rw [huni.out, hall.out]
                rfl
              replace HR := hid HR
              replace hdn := hid hdn
              clear hna' hnb' hOa' hOb' hRa' hRb' hFa' hFb'
              refine wp_region_split 8 2 (by kernel_rfl) rfl (by kernel_rfl) (by kernel_rfl) (by kernel_rfl) ?_
              simp only [List.take_succ_cons, List.take_zero]
              repeat (gi_big_quiet_step (fail))
              refine wpQuietIn_nil ?_
              intro _ hw'
              obtain ⟨nq, hw''⟩ := hw'
              subst hw''
              refine wpAnyIn_ready (rs := [8]) (by kernel_rfl) (by simp) (AllReadyIn.cons rfl (fun K hK => ?_) AllReadyIn.nil)
              go_simp
              refine ⟨trivial, rfl, callsIn_wide.2 ((HR.out nq).mono ?_)⟩
              rintro e w6 hsr
              obtain ⟨bl, rfl⟩ := hsr.bool
              replace hsr := hid hsr
              dsimp only
              refine hK _ _ ?_
              clear hK K
              refine wpAnyIn_ready (rs := [9]) (by kernel_rfl) (by simp) (AllReadyIn.cons rfl (fun K hK => ?_) AllReadyIn.nil)
              go_simp
              refine hK _ _ ?_
              clear hK K
              refine wpAnyIn_done (by kernel_rfl) ?_ _
              go_wp2
              go_ret
              rw [hsu.out]
              exact hsr.out.after (hx.out) (hc.out.trans (hdn.out nq) (fun _ h => h.elim)) hGin
        · have kk : ((G.kind (X.root a) : Int) != (G.kind (X.root b) : Int)) = true := by rw [bne_iff_ne]; omega
          have hkk' : G.kind (G.rep a) ≠ G.kind (G.rep b) := by rw [← hka.out, ← hkb.out]; exact hkk
          replace hkk := hid hkk
          replace hkk' := hid hkk'
          go_wp2
          go_ret
          exact SrP.no (uni_ne hrep.out ha0'.out hb0'.out hkk'.out) hc3.out
theorem psame_any {T : Nat} (hT : T < 100000000) : ∀ k, PSameOK T F k := by
  intro k
  induction k with
  | zero => intro w G X a b _ _ _ _ _ h; exact absurd h (Nat.not_lt_zero _)
  | succ k ih => exact psame_step hT ih
end Go.Proofs.Ytcogpcalghfghaa

namespace Go.Proofs.Ytcogpcalghfghaa
open Go.RowKit
open Un (Bag Nm Gr)
variable {F : Nat → Prop}

theorem field_row0 (a : Option Addr) (n c : Nat) (p : Option Nat) (w : World) : Sem.run Try.prog (Instr.field 76 (.agg #[.slice a n c, oP p]) 0) w = .ok (.slice a n c) w := by
  kernel_rfl
def setF (f : Nat → Nat) (r v : Nat) : Nat → Nat := fun i => if i = r then v else f i
theorem setF_same (f : Nat → Nat) (r v : Nat) : setF f r v r = v := if_pos rfl
theorem setF_other {f : Nat → Nat} {r v i : Nat} (h : i ≠ r) : setF f r v i = f i := if_neg h
/-- A node is marked. -/
def Gx.mark (X : Gx) (r a b : Nat) : Gx := { X with rd := setF X.rd r a, pt := setF X.pt r b }
theorem PG.mark {w w' : World} {G : Gr} {X : Gx} (h : PG w G X F) {r a b : Nat} (hr : r < G.n) (hc : Ch (fun k => k = X.pi r) w w')
    (hn : ∀ k av ov rp up, w.heap[X.pi r]? = some (.cells #[k, av, ov, rp, up, .int .i64 (X.rd r : Nat), .int .i64 (X.pt r : Nat)] 78 (0, 0)) → w'.heap[X.pi r]? = some (.cells #[k, av, ov, rp, up, .int .i64 (a : Nat), .int .i64 (b : Nat)] 78 (0, 0))) : PG w' G (X.mark r a b) F := by
  have hO : Tg w (fun k => k = X.pi r) := h.tg.sub (fun k e => .inl ⟨r, hr, e.symm⟩)
  refine ⟨fun k hk => Nat.lt_of_lt_of_le (h.F_lt k hk) hc.size, h.pi_inj, h.ps_inj, h.root_lt, h.root_rep, h.root_one, h.root_kind, fun i hi => ?_, fun q b hq => (h.rest q b hq).keep hc hO (fun e => h.apart hr (r := q) (by rw [← e]; exact hq)), h.ps_lt, h.ps_W, h.ps_no, h.mb⟩
  by_cases e : i = r
  · subst e
    obtain ⟨hf, av, ov, rp, up, bg, g1, g2, g3, g4⟩ := h.node i hi
    refine ⟨hf, av, ov, rp, up, bg, ?_, g2.keep hc hO, g3.keep hc hO, g4⟩
    show w'.heap[X.pi i]? = some (.cells #[_, _, _, _, _, .int .i64 ((setF X.rd i a i : Nat) : Int), .int .i64 ((setF X.pt i b i : Nat) : Int)] 78 (0, 0))
    rw [setF_same, setF_same]
    exact hn _ _ _ _ _ g1
  · obtain ⟨hf, av, ov, rp, up, bg, g1, g2, g3, g4⟩ := (h.node i hi).keep hc hO (fun e2 => e (h.pi_inj i r hi hr e2))
    refine ⟨hf, av, ov, rp, up, bg, ?_, g2, g3, g4⟩
    show w'.heap[X.pi i]? = some (.cells #[_, _, _, _, _, .int .i64 ((setF X.rd r a i : Nat) : Int), .int .i64 ((setF X.pt r b i : Nat) : Int)] 78 (0, 0))
    rw [setF_other e, setF_other e]
    exact g1
/-- What was measured in a round is so. -/
def MQ (G : Gr) (X : Gx) (R : Nat) : Prop := ∀ i, i < G.n → X.root i = i → X.rd i = R → X.pt i = 0 ∨ ∃ s, G.Parts i s ∧ X.pt i = min s 301
def PGrey (G : Gr) (X : Gx) (R n : Nat) : Prop := ∀ i, i < G.n → X.root i = i → X.rd i = R → X.pt i = 0 → ∃ j ∈ G.kids i, G.Rch j n
def punm (G : Gr) (X : Gx) (R : Nat) : Nat := ((List.range G.n).filter fun i => X.root i == i && X.rd i != R).length
/-- What one measurement keeps. -/
structure XM (G : Gr) (R : Nat) (X Y : Gx) : Prop where
  pi : Y.pi = X.pi
  root : Y.root = X.root
  ps : Y.ps = X.ps
  mq : MQ G Y R
  gr : ∀ i, i < G.n → X.root i = i → ((Y.rd i = R ∧ Y.pt i = 0) ↔ (X.rd i = R ∧ X.pt i = 0))
  rm : ∀ i, X.rd i = R → Y.rd i = R
  or : ∀ i, Y.rd i = X.rd i ∨ Y.rd i = R
theorem XM.refl {G : Gr} {R : Nat} {X : Gx} (h : MQ G X R) : XM G R X X := ⟨rfl, rfl, rfl, h, fun _ _ _ => Iff.rfl, fun _ h => h, fun _ => .inl rfl⟩
theorem XM.trans {G : Gr} {R : Nat} {X Y Z : Gx} (h : XM G R X Y) (h' : XM G R Y Z) : XM G R X Z :=
  ⟨h'.pi.trans h.pi, h'.root.trans h.root, h'.ps.trans h.ps, h'.mq, fun i hi hr => (h'.gr i hi (by rw [h.root]; exact hr)).trans (h.gr i hi hr), fun i hi => h'.rm i (h.rm i hi), fun i => by
    rcases h'.or i with e | e
    · rw [e]; exact h.or i
    · exact .inr e⟩
theorem XM.own {G : Gr} {R : Nat} {X Y : Gx} (h : XM G R X Y) (n : Nat) : Y.own n = X.own n := by
  funext k
  unfold Gx.own
  rw [h.pi, h.ps]
theorem flt_le {p q : Nat → Bool} : ∀ (l : List Nat), (∀ i ∈ l, q i = true → p i = true) → (l.filter q).length ≤ (l.filter p).length := by
  intro l
  induction l with
  | nil => intro _; simp
  | cons x l ih =>
    intro h
    have i1 := ih (fun i hi => h i (by simp [hi]))
    rw [List.filter_cons, List.filter_cons]
    split
    · rename_i hq
      rw [if_pos (h x (by simp) hq)]
      simpa using i1
    · split
      · simp; omega
      · exact i1
theorem XM.unm {G : Gr} {R : Nat} {X Y : Gx} (h : XM G R X Y) : punm G Y R ≤ punm G X R := by
  unfold punm
  refine flt_le _ (fun i _ hi => ?_)
  simp only [Bool.and_eq_true, beq_iff_eq, bne_iff_ne] at hi ⊢
  exact ⟨by rw [← h.root]; exact hi.1, fun e => hi.2 (h.rm i e)⟩
theorem unm_mark {G : Gr} {R : Nat} {X : Gx} {r b : Nat} (hr : r < G.n) (hrr : X.root r = r) (h : X.rd r ≠ R) : punm G (X.mark r R b) R < punm G X R := by
  unfold punm
  refine Gr.filter_lt (a := r) _ (fun i _ hi => ?_) (by simpa using hr) (by simp [hrr, h]) ?_
  · simp only [Bool.and_eq_true, beq_iff_eq, bne_iff_ne] at hi ⊢
    refine ⟨hi.1, fun e => hi.2 ?_⟩
    show setF X.rd r R i = R
    unfold setF
    split
    · rfl
    · exact e
  · simp only [Bool.and_eq_false_iff, beq_eq_false_iff_ne, bne_eq_false_iff_eq]
    exact .inr (setF_same _ _ _)
namespace Un.Gr
theorem sumP_snoc {G : Gr} {a x : Nat} (ha : G.Parts a x) : ∀ {l : List Nat} {t : Nat}, G.SumP l t → G.SumP (l ++ [a]) (t + x) := by
  intro l
  induction l with
  | nil => intro t h; exact ⟨x, 0, ha, rfl, by rw [show t = 0 from h]; omega⟩
  | cons b l ih =>
    rintro t ⟨y, z, h1, h2, rfl⟩
    exact ⟨y, z + x, h1, ih h2, by omega⟩
theorem Parts.of_rep {G : Gr} (hG : G.OK) {i j s : Nat} (h : G.rep i = G.rep j) (e : G.Parts i s) : G.Parts j s := by
  obtain ⟨k, h1⟩ := e
  exact ⟨k, by rw [← sz_rep hG h]; exact h1⟩
end Un.Gr
/-- The root of a class has what its representative has. -/
theorem PG.root_same {w : World} {G : Gr} {X : Gx} (hG : G.OK) (h : PG w G X F) {n : Nat} (hn : n < G.n) : G.kids (X.root n) = G.kids (G.rep n) ∧ G.whole (X.root n) = G.whole (G.rep n) := by
  by_cases e : G.kind (G.rep n) = 0
  · have hr := h.root_lt n hn
    have hp := hG.rep_lt n hn
    have k1 : G.kind (X.root n) = 0 := by rw [h.kind_root hG hn]; exact e
    have l1 := hG.kids_len _ hr
    have l2 := hG.kids_len _ hp
    rw [k1] at l1
    rw [e] at l2
    have q1 := hG.row_none _ hr (by omega)
    have q2 := hG.row_none _ hp (by omega)
    refine ⟨by rw [List.length_eq_zero_iff.1 l1, List.length_eq_zero_iff.1 l2], ?_⟩
    unfold Gr.whole
    rw [q1.2, q2.2, q1.1, q2.1]
  · rw [h.root_kind n hn e]
    exact ⟨rfl, rfl⟩
theorem whole_top {T : Nat} (hT : T < 100000000) {G : Gr} (hG : G.OK) {X : Gx} {w : World} (h : PG w G X F) {v : Value} {b : Bag} {nx p : Option Nat} (hb : BagT w F v b) (hp : RestV X nx p) (hl : (G.wh (Un.flat b) nx).1.length ≤ T) :
    Calls Try.prog 31 #[.agg #[v, oP p]] w fun e w' => WhP G X F w (Un.flat b) nx e w' := by
  obtain ⟨k, hk⟩ : ∃ k, ∀ s, nx = some s → X.rr s < k := by
    cases nx with
    | none => exact ⟨0, fun s e => by cases e⟩
    | some s => exact ⟨X.rr s + 1, fun q e => by cases e; omega⟩
  exact whole_any hT hG k w v b nx p F h hb hp hk hl
theorem mq_mark {G : Gr} {X : Gx} {R r : Nat} (h : MQ G X R) : MQ G (X.mark r R 0) R := by
  intro i hi hr hm
  by_cases e : i = r
  · subst e; exact .inl (setF_same _ _ _)
  · have h1 : setF X.rd r R i = R := hm
    rw [setF_other e] at h1
    show setF X.pt r 0 i = 0 ∨ ∃ s, G.Parts i s ∧ setF X.pt r 0 i = min s 301
    rw [setF_other e]
    exact h i hi hr h1
/-- What Measure answers. -/
def MsP (G : Gr) (X : Gx) (F : Nat → Prop) (R : Nat) (w : World) (n : Nat) (e : Ending) (w' : World) : Prop :=
  ∃ z : Nat, e = .returned (.int .i64 (z : Nat)) ∧ Ch (X.own G.n) w w' ∧ (z = 0 → ¬ G.Ends n) ∧ (z ≠ 0 → ∃ s, G.Parts n s ∧ z = min s 301 ∧ ∃ Y, PG w' G Y F ∧ XM G R X Y)
def MsOK (T : Nat) (F : Nat → Prop) (G : Gr) (R k : Nat) : Prop := ∀ (w : World) (X : Gx) (n : Nat), PG w G X F → n < G.n → MQ G X R → PGrey G X R n → punm G X R < k →
  Calls Try.prog 29 #[.pointer (some ⟨X.pi n, 0, none⟩), .int .i64 (R : Nat)] w fun e w' => MsP G X F R w n e w'

set_option maxRecDepth 100000 in
set_option maxHeartbeats 8000000 in
theorem measure_step {T : Nat} (hT : T < 100000000) {G : Gr} (hG : G.OK) (hB : G.Bd T) {R : Nat} {k : Nat} (ih : MsOK T F G R k) : MsOK T F G R (k + 1) := by
  intro w X n h hn hq hgy hun
  have HN := Now_any w G X n h hn
  have hrt := h.root_lt n hn
  have hrr := h.root_root hn
  have hsm := hid (h.root_same hG hn)
  have hrp := h.root_rep n hn
  have hkr := hid (h.kind_root hG hn)
  have hrk := hid (h.root_kind n hn)
  replace h := hid h
  replace hq := hid hq
  replace hgy := hid hgy
  replace hun := hid hun
  replace ih := hid ih
  go_enter Try.func29, Try.ntmps29
  go_upto_region 2 with (go_at_call 27; refine HN.mono ?_; clear HN; rintro e w1 ⟨rfl, hP1, hc1⟩; replace hP1 := hid hP1; replace hc1 := hid hc1)
  generalize hr : X.root n = r at *
  obtain ⟨-, av, ov, rp, up, bg, hnd, hAv, hOv, hFv, hRv, -, -⟩ := hP1.out.node r hrt
  obtain ⟨-, a1, a2, a3, -, a5, a6⟩ := node_cells hnd
  have f5 := frozenB hnd 5
  have f6 := frozenB hnd 6
  by_cases hm : X.rd r = R
  · have kk : ((X.rd r : Int) == (R : Int)) = true := by simp [hm]
    rw [hm] at a5
    have hbr : ((R : Int) == (R : Int)) = true := by simp
    clear hnd hAv hOv hRv hFv
    go_wp2
    go_ret
    refine ⟨X.pt r, rfl, hc1.out, fun hz => ?_, fun hz => ?_⟩
    · obtain ⟨j, hj, hj2⟩ := hgy.out r hrt (by rw [hrr]) hm hz
      exact Gr.round_no hG (a := n) (by rw [← hsm.out.1]; exact hj) hj2
    · rcases hq.out r hrt (by rw [hrr]) hm with e | ⟨s, hs, e⟩
      · exact absurd e hz
      · exact ⟨s, hs.of_rep hG hrp, e, X, hP1.out, XM.refl hq.out⟩
  · have kk : ((X.rd r : Int) == (R : Int)) = false := by rw [beq_eq_false_iff_ne]; omega
    have hmu := hid (unm_mark (b := 0) hrt hrr hm)
    have hq1 := hid (mq_mark (r := r) hq.out)
    replace hm := hid hm
    have hnd' := hid hnd
    obtain ⟨sov, cov, hsov, -⟩ := id hOv.bv
    subst hsov
    have hP2 := hid (hP1.out.mark hrt (a := R) (b := 0) (w' := (w1.setCell ⟨X.pi r, 5, none⟩ (.int .i64 (R : Nat))).setCell ⟨X.pi r, 6, none⟩ (.int .i64 0)) (((Ch.refl (fun k => k = X.pi r) w1).set (a := ⟨X.pi r, 5, none⟩) rfl _).set (a := ⟨X.pi r, 6, none⟩) rfl _) (fun _ _ _ _ _ hh => by rw [blk_set (blk_set hh)]; rfl))
    have hcs : Ch (X.own G.n) w1 ((w1.setCell ⟨X.pi r, 5, none⟩ (.int .i64 (R : Nat))).setCell ⟨X.pi r, 6, none⟩ (.int .i64 0)) := ((Ch.refl _ w1).set (a := ⟨X.pi r, 5, none⟩) (.inl ⟨r, hrt, rfl⟩) _).set (a := ⟨X.pi r, 6, none⟩) (.inl ⟨r, hrt, rfl⟩) _
    have hnd2 : ((w1.setCell ⟨X.pi r, 5, none⟩ (.int .i64 (R : Nat))).setCell ⟨X.pi r, 6, none⟩ (.int .i64 0)).heap[X.pi r]? = some (.cells #[.int .i64 (G.kind r : Nat), av, .slice sov bg.length cov, oP rp, oP (up.map X.pi), .int .i64 (R : Nat), .int .i64 0] 78 (0, 0)) := by rw [blk_set (blk_set hnd)]; rfl
    have hO2 := hid (hOv.keep hcs hP1.out.tg)
    have hRv2 : Hid (RestV (X.mark r R 0) (G.rv r) rp) := hRv
    have hc2 := hid (hc1.out.trans hcs (fun _ h => .inl h))
    clear hnd
    go_upto_region 5 with (fail)
    clear a1 a2 a3 a5 a6 f5 f6 hcs hOv hRv hP1 hc1 hnd'
    generalize (w1.setCell ⟨X.pi r, 5, none⟩ (.int .i64 (R : Nat))).setCell ⟨X.pi r, 6, none⟩ (.int .i64 0) = w2 at *
    obtain ⟨-, -, a2, a3, -, -, -⟩ := node_cells hnd2
    have hLT := hB.whole hrt
    have HW := whole_top hT hG hP2.out hO2.out hRv2.out (by rw [hFv, ← Gr.whole_wh]; exact hLT)
    rw [hFv] at HW
    replace hnd2 := hid hnd2
    clear hAv
    go_upto_region 6 with (first
      | (go_at_call 31; refine HW.mono ?_; clear HW; rintro e w3 ⟨v3, b3, p3, rfl, hb3, -, hf3, hP3, hc3⟩; rw [← Gr.whole_wh] at hf3; have hz3 : sizeB b3 = (G.whole r).1.length := by { rw [← hf3, Un.flat_length]; rfl }; have HZ := size_any w3 v3 b3 hb3.bv (by have := (hb3.small (Nat.le_of_eq (congrArg List.length hf3))).1; omega) (by rw [hz3]; omega); rw [hz3] at HZ; obtain ⟨s3, c3, hv3, -⟩ := id hb3.bv; subst hv3; clear hb3 hf3 hz3; have hfd := field_row0 s3 b3.length c3 p3 w3; replace hP3 := hid hP3; replace hc3 := hid hc3)
      | (go_at_call 39; refine HZ.mono ?_; clear HZ; rintro e w4 ⟨rfl, hc4⟩; replace hc4 := hid hc4))
    have hc5 := hid ((hc2.out.trans hc3.out (fun _ h => .inl h)).trans hc4.out (fun _ h => h.elim))
    have hP4 := hid (hP3.out.quiet hc4.out)
    clear hP3 hc3 hc4 a2 a3 hnd2 hO2 hRv2 hc2 hP2 hFv
    obtain ⟨-, av4, ov4, rp4, up4, bg4, hnd4, hAv4, -⟩ := hP4.out.node r hrt
    obtain ⟨-, a1, -, -, -, -, -⟩ := node_cells hnd4
    obtain ⟨sa, ca, hsa, -⟩ := hAv4.sl
    subst hsa
    rw [List.length_map] at hAv4 hnd4 a1
    replace hAv4 := hid hAv4
    replace a1 : w4.cell? ⟨X.pi r, 1, none⟩ = some (.slice sa (G.kids r).length ca) := a1
    clear hnd4
    have hkl2 : (G.kids r).length ≤ 2 := by
      rw [hG.kids_len _ hrt]
      unfold Gr.arity
      split
      · omega
      · split <;> omega
    have hkn := hid (hG.kids_lt _ hrt)
    have hsk := hid hsm.out.1
    have hsw := hid (congrArg (fun p => p.1.length) hsm.out.2)
    generalize hL : (G.whole r).1.length = L at *
    generalize hlK : G.kids r = lK at *
    replace hL := hid hL
    replace hlK := hid hlK
    obtain ⟨X1, hX1⟩ : ∃ X1, X1 = X.mark r R 0 := ⟨_, rfl⟩
    rw [← hX1] at hP4 hmu hq1
    have hX1pi : X1.pi = X.pi := by rw [hX1]; rfl
    have hX1root : X1.root = X.root := by rw [hX1]; rfl
    have hX1ps : X1.ps = X.ps := by rw [hX1]; rfl
    have hX1own : X1.own G.n = X.own G.n := by funext k; unfold Gx.own; rw [hX1pi, hX1ps]
    replace hX1 := hid hX1
    replace hX1pi := hid hX1pi
    replace hX1root := hid hX1root
    replace hX1ps := hid hX1ps
    replace hX1own := hid hX1own
    have hA4 : Hid (ArgsT w4 F (.slice sa lK.length ca) (lK.map X.pi)) := by
      have := hAv4.out
      unfold Hid
      rw [← hX1pi.out, hX1.out]
      exact this
    clear hAv4
    go_wp2
    go_loopg [41, 5] (lK.length + 1) (fun q v41 v5 wr => ∃ (i p : Nat) (Xi : Gx), v41 = .int .i64 (i : Nat) ∧ v5 = .int .i64 (p : Nat) ∧ i ≤ lK.length ∧ q = lK.length + 1 - i ∧ 1 ≤ p ∧ p ≤ 1 + L + 301 * i ∧ Hid (PG wr G Xi F) ∧ Hid (XM G R X1 Xi) ∧ Hid (Ch (X.own G.n) w wr) ∧ Hid (∃ t, G.SumP (lK.take i) t ∧ min p 301 = min (1 + L + t) 301) ∧ Hid (ArgsT wr F (.slice sa lK.length ca) (lK.map X.pi)))
    case atStart => exact ⟨0, 1 + L, X1, rfl, by rw [Int.natCast_add]; rfl, by omega, by omega, by omega, by omega, hP4, hid (XM.refl hq1.out), hc5, hid ⟨0, by simp [Gr.SumP], rfl⟩, hA4⟩
    case round =>
      clear hP4 hA4 hc5 a1
      obtain ⟨i, p, Xi, rfl, rfl, hi, rfl, hp1, hp2, hP, hx, hc, hS, hA⟩ := hrel
      by_cases e : i < lK.length
      · have i0 : (0 : Int) ≤ i := by omega
        have i1 : (i : Int) < (lK.length : Int) := by omega
        have hwi : IntKind.i64.wrap ((i : Int) + 1) = (i : Int) + 1 := IntWalk.i64_in _ (by omega)
        obtain ⟨ka, hka1⟩ : ∃ x, lK[i]? = some x := ⟨lK[i], by simp⟩
        have hkam := List.mem_of_getElem? hka1
        have hkan := hkn.out ka hkam
        obtain ⟨g, o, hsg, ce⟩ := hA.out.at (i := i) (b := X.pi ka) (by rw [List.getElem?_map, hka1]; rfl)
        subst hsg
        have hpi : Xi.pi = X.pi := hx.out.pi.trans hX1pi.out
        have hrn : Gr.Rch G n ka := .kid (by rw [← hsk.out]; exact hkam) (.here rfl)
        have HS := ih.out wr Xi ka hP.out hkan hx.out.mq (fun q hq hqr hqm hqp => by
          have hqr1 : X1.root q = q := by rw [← hx.out.root]; exact hqr
          have h1 := (hx.out.gr q hq hqr1).1 ⟨hqm, hqp⟩
          by_cases e2 : q = r
          · subst e2
            exact ⟨ka, by rw [hlK.out]; exact hkam, .here rfl⟩
          · have h2 : setF X.rd r R q = R := by have := h1.1; rw [hX1.out] at this; exact this
            have h3 : setF X.pt r 0 q = 0 := by have := h1.2; rw [hX1.out] at this; exact this
            rw [setF_other e2] at h2 h3
            obtain ⟨j, hj, hj2⟩ := hgy.out q hq (by rw [← hX1root.out]; exact hqr1) h2 h3
            exact ⟨j, hj, hj2.trans hG hrn⟩) (Nat.lt_of_le_of_lt hx.out.unm (by have h1 := hmu.out; have h2 := hun.out; omega))
        rw [hpi] at HS
        replace hka1 := hid hka1
        replace hkam := hid hkam
        replace hrn := hid hrn
        replace hpi := hid hpi
        go_upto_region 10 with (go_at_call 29; refine HS.mono ?_; clear HS; rintro e w5 ⟨z, rfl, h1, h2, h3⟩; replace h1 := hid h1; replace h2 := hid h2; replace h3 := hid h3)
        have hown : Xi.own G.n = X.own G.n := by rw [hx.out.own, hX1own.out]
        have hcw := hid (hc.out.trans h1.out (fun q hq => by rw [hown] at hq; exact .inl hq))
        replace hown := hid hown
        by_cases hz : z = 0
        · have kz : ((z : Int) == 0) = true := by simp [hz]
          replace hz := hid hz
          go_wp2
          go_ret
          refine ⟨0, rfl, hcw.out, fun _ he => ?_, fun e => absurd rfl e⟩
          exact h2.out hz.out ((Gr.ends_iff n).1 he ka (by rw [← hsk.out]; exact hkam.out))
        · have kz : ((z : Int) == 0) = false := by rw [beq_eq_false_iff_ne]; omega
          obtain ⟨s, hs, hzs, Y, hY, hxy⟩ := h3.out hz
          have hz301 : z ≤ 301 := by omega
          have hwp : IntKind.i64.wrap ((p : Int) + (z : Int)) = ((p + z : Nat) : Int) := by rw [IntWalk.i64_in _ (by omega)]; omega
          replace hY := hid hY
          replace hxy := hid hxy
          replace hzs := hid hzs
          replace hs := hid hs
          replace hz := hid hz
          go_wp2
          go_roundg (lK.length - i)
          case measure => omega
          case rel =>
            refine ⟨i + 1, p + z, Y, by simp, rfl, by omega, by omega, by omega, by omega, hY, hid (hx.out.trans hxy.out), hcw, ?_, hid (hA.out.keep h1.out hP.out.tg)⟩
            obtain ⟨t, ht, htp⟩ := hS.out
            refine ⟨t + s, ?_, ?_⟩
            · rw [List.take_add_one, hka1.out]
              exact Gr.sumP_snoc hs.out ht
            · have := hzs.out
              omega
      · obtain rfl : i = lK.length := by omega
        have i1 : ¬ (lK.length : Int) < (lK.length : Int) := by omega
        rw [List.take_length] at hS
        obtain ⟨t, ht, htp⟩ := hS.out
        obtain ⟨-, av9, ov9, rp9, up9, bg9, hnd9, -⟩ := hP.out.node r hrt
        have hpi : Xi.pi = X.pi := hx.out.pi.trans hX1pi.out
        have hown : Xi.own G.n = X.own G.n := by rw [hx.out.own, hX1own.out]
        rw [hpi] at hnd9
        obtain ⟨-, -, -, -, -, -, a6⟩ := node_cells hnd9
        have f6 := frozenB hnd9 6
        have hrd : Xi.rd r = R := hx.out.rm r (by rw [hX1.out]; exact setF_same _ _ _)
        have hPm := hid (hP.out.mark hrt (a := R) (b := min p 301) (w' := wr.setCell ⟨X.pi r, 6, none⟩ (.int .i64 ((min p 301 : Nat) : Int))) (by rw [hpi]; exact (Ch.refl (fun k => k = X.pi r) wr).set (a := ⟨X.pi r, 6, none⟩) rfl _) (fun _ _ _ _ _ hh => by rw [hpi] at hh ⊢; rw [blk_set hh, hrd]; rfl))
        have hb9 : (wr.setCell ⟨X.pi r, 6, none⟩ (.int .i64 ((min p 301 : Nat) : Int))).cell? ⟨X.pi r, 6, none⟩ = some (.int .i64 ((min p 301 : Nat) : Int)) := by rw [cellB (blk_set hnd9)]; rfl
        have hmn : ((min p 301 : Nat) : Int) = min (p : Int) 301 := by omega
        have hcm := hid (hc.out.set (a := ⟨X.pi r, 6, none⟩) (.inl ⟨r, hrt, rfl⟩) (.int .i64 ((min p 301 : Nat) : Int)))
        rw [hmn] at hb9 hPm hcm
        replace hmn := hid hmn
        replace hpi := hid hpi
        replace hown := hid hown
        replace htp := hid htp
        replace hrd := hid hrd
        clear hnd9
        go_wp2
        go_ret
        have hpart : G.Parts n (1 + t + L) := by
          have := Gr.Parts.mk (i := n) (G := G) (s := t) (by rw [← hsk.out]; exact ht)
          rw [← hsw.out] at this
          exact this
        have hrn : G.rep n = G.rep r := hrp.symm
        have hmin := htp.out
        refine ⟨min p 301, by rw [hmn.out]; rfl, hcm.out, fun e0 => absurd e0 (by omega), fun _ => ⟨1 + t + L, hpart, by omega, Xi.mark r R (min p 301), hPm.out, hpi.out, hx.out.root.trans hX1root.out, hx.out.ps.trans hX1ps.out, fun q hq1 hq2 hq3 => ?_, fun q hq1 hq2 => ?_, fun q hq1 => ?_, fun q => ?_⟩⟩
        · by_cases e2 : q = r
          · subst e2
            refine .inr ⟨1 + t + L, hpart.of_rep hG hrn, ?_⟩
            show setF Xi.pt q (min p 301) q = _
            rw [setF_same]
            omega
          · have h3 : setF Xi.rd r R q = R := hq3
            rw [setF_other e2] at h3
            show setF Xi.pt r (min p 301) q = 0 ∨ ∃ s, G.Parts q s ∧ setF Xi.pt r (min p 301) q = min s 301
            rw [setF_other e2]
            exact hx.out.mq q hq1 hq2 h3
        · show (setF Xi.rd r R q = R ∧ setF Xi.pt r (min p 301) q = 0) ↔ (X.rd q = R ∧ X.pt q = 0)
          by_cases e2 : q = r
          · subst e2
            rw [setF_same, setF_same]
            exact ⟨fun h => absurd h.2 (by omega), fun h => absurd h.1 hm.out⟩
          · rw [setF_other e2, setF_other e2]
            have h1 := hx.out.gr q hq1 (by rw [hX1root.out]; exact hq2)
            rw [h1, hX1.out]
            show (setF X.rd r R q = R ∧ setF X.pt r 0 q = 0) ↔ _
            rw [setF_other e2, setF_other e2]
        · show setF Xi.rd r R q = R
          by_cases e2 : q = r
          · subst e2; exact setF_same _ _ _
          · rw [setF_other e2]
            refine hx.out.rm q ?_
            rw [hX1.out]
            show setF X.rd r R q = R
            rw [setF_other e2]
            exact hq1
        · show setF Xi.rd r R q = X.rd q ∨ setF Xi.rd r R q = R
          by_cases e2 : q = r
          · subst e2; exact .inr (setF_same _ _ _)
          · rw [setF_other e2]
            have h1 := hx.out.or q
            rw [hX1.out] at h1
            have h2 : (X.mark r R 0).rd q = X.rd q := setF_other e2
            rw [h2] at h1
            exact h1
theorem measure_any {T : Nat} (hT : T < 100000000) {G : Gr} (hG : G.OK) (hB : G.Bd T) {R : Nat} : ∀ k, MsOK T F G R k := by
  intro k
  induction k with
  | zero => intro w X n _ _ _ _ h; exact absurd h (Nat.not_lt_zero _)
  | succ k ih => exact measure_step hT hG hB ih
end Go.Proofs.Ytcogpcalghfghaa

namespace Go.Proofs.Ytcogpcalghfghaa
open Go.RowKit
open Un (Bag Nm Gr)

/-- A map from numbers to blocks. -/
def MB (w : World) (mB : Nat) (l : List (Int × Nat)) : Prop := ∃ es clock, w.heap[mB]? = some (.map es clock) ∧ es.toList.map (fun e => (e.key, e.val)) = l.map fun p => (Value.int .i64 p.1, bP p.2)
theorem MB.lt {w : World} {mB : Nat} {l : List (Int × Nat)} (h : MB w mB l) : mB < w.heap.size := by
  obtain ⟨es, c, h, _⟩ := h
  exact (Array.getElem?_eq_some_iff.1 h).1
theorem MB.keep {w w' : World} {mB : Nat} {l : List (Int × Nat)} (h : MB w mB l) {O : Nat → Prop} (hc : Ch O w w') (ho : ¬ O mB) : MB w' mB l := by
  obtain ⟨es, c, h1, h2⟩ := h
  exact ⟨es, c, (hc.same _ (Array.getElem?_eq_some_iff.1 h1).1 ho).trans h1, h2⟩
theorem findNow_ip (k : Int) : ∀ (es : List MapEntry) (l : List (Int × Nat)) (i : Nat), es.map (fun e => (e.key, e.val)) = l.map (fun p => (Value.int .i64 p.1, bP p.2)) →
    (l.lookup k = none → Instr.findNow (.int .i64) (.int .i64 k) es i = some none) ∧ (∀ v, l.lookup k = some v → ∃ j, Instr.findNow (.int .i64) (.int .i64 k) es i = some (some (i + j, bP v)))
  | [], [], i, _ => ⟨fun _ => rfl, fun v h => by cases h⟩
  | [], _ :: _, _, h => by cases h
  | _ :: _, [], _, h => by cases h
  | e :: es, p :: l, i, h => by
    simp only [List.map_cons, List.cons.injEq, Prod.mk.injEq] at h
    obtain ⟨⟨hk, hv⟩, hr⟩ := h
    obtain ⟨h1, h2⟩ := findNow_ip k es l (i + 1) hr
    by_cases e1 : k = p.1
    · refine ⟨fun h => by simp [List.lookup, e1] at h, fun v h => ⟨0, ?_⟩⟩
      have : p.2 = v := by simpa [List.lookup, e1] using h
      simp [Instr.findNow, Instr.sameNow, hk, hv, this, e1]
    · have e2 : (k == p.1) = false := by simp [e1]
      refine ⟨fun h => ?_, fun v h => ?_⟩
      · have : l.lookup k = none := by simpa [List.lookup, e2] using h
        simp [Instr.findNow, Instr.sameNow, hk, h1 this, e2]
      · have : l.lookup k = some v := by simpa [List.lookup, e2] using h
        obtain ⟨j, hj⟩ := h2 v this
        refine ⟨j + 1, ?_⟩
        have e3 : i + 1 + j = i + (j + 1) := by omega
        simp [Instr.findNow, Instr.sameNow, hk, hj, e2, e3]
/-- The number of a block: its place in a list, from 1 on; 0: it has none. -/
def pl (l : List Nat) (b : Nat) : Nat := if b ∈ l then l.idxOf b + 1 else 0
/-- A map from blocks to their places. -/
def MN (w : World) (mB : Nat) (l : List Nat) : Prop := ∃ es clock, w.heap[mB]? = some (.map es clock) ∧ es.toList.map (fun e => (e.key, e.val)) = l.mapIdx fun i b => (bP b, Value.int .i64 ((i + 1 : Nat) : Int))
theorem MN.lt {w : World} {mB : Nat} {l : List Nat} (h : MN w mB l) : mB < w.heap.size := by
  obtain ⟨es, c, h, _⟩ := h
  exact (Array.getElem?_eq_some_iff.1 h).1
theorem MN.keep {w w' : World} {mB : Nat} {l : List Nat} (h : MN w mB l) {O : Nat → Prop} (hc : Ch O w w') (ho : ¬ O mB) : MN w' mB l := by
  obtain ⟨es, c, h1, h2⟩ := h
  exact ⟨es, c, (hc.same _ (Array.getElem?_eq_some_iff.1 h1).1 ho).trans h1, h2⟩
def Plain (w : World) (b : Nat) : Prop := ∃ cs T, w.heap[b]? = some (.cells cs T (0, 0))
section
variable {tp te : TypeId} {j : TypeInfo} (hp : Try.prog.underlying tp = some (.pointer te)) (hte : Try.prog.info? te = some j) (hsz : j.size ≠ 0)
include hp hte
theorem equal_same (w : World) (b : Nat) : (Op.equal tp (bP b) (bP b)).run Try.prog w = .ok true w := by
  have h : ∀ d : Nat, (Op.equalIn (d + 1) tp (bP b) (bP b)).run Try.prog w = .ok true w := fun d => by
    simp [bP, Op.equalIn, run_underlying hp, sizeOf, typeInfo, hte, run_sameAddr_same]
  simp [Op.equal, Op.maxDepth, h 9999]
include hsz
theorem equal_other (w : World) {a b : Nat} (hne : a ≠ b) (ha : Plain w a) (hb : Plain w b) : (Op.equal tp (bP a) (bP b)).run Try.prog w = .ok false w := by
  obtain ⟨ca, ta, ha⟩ := ha
  obtain ⟨cb, tb, hb⟩ := hb
  have hne' : (⟨a, 0, none⟩ : Addr) ≠ ⟨b, 0, none⟩ := fun e => hne (by cases e; rfl)
  have h : ∀ d : Nat, (Op.equalIn (d + 1) tp (bP a) (bP b)).run Try.prog w = .ok false w := fun d => by
    have := run_sameAddr_other (P := Try.prog) w hne' ha hb
    simp [bP, Op.equalIn, run_underlying hp, sizeOf, typeInfo, hte, hsz, this]
  simp [Op.equal, Op.maxDepth, h 9999]
set_option maxRecDepth 10000 in
theorem ask_any (w : World) (b : Nat) (hb : Plain w b) : ∀ (es : List MapEntry) (l : List Nat) (o i : Nat), (∀ x ∈ l, Plain w x) → es.map (fun e => (e.key, e.val)) = l.mapIdx (fun i b => (bP b, Value.int .i64 ((o + i + 1 : Nat) : Int))) →
    (Instr.findAsking tp (bP b) es i).run Try.prog w = .ok (if b ∈ l then some (i + l.idxOf b, Value.int .i64 ((o + l.idxOf b + 1 : Nat) : Int)) else none) w
  | [], [], _, _, _, _ => by simp [Instr.findAsking]
  | [], _ :: _, _, _, _, h => by simp at h
  | _ :: _, [], _, _, _, h => by simp at h
  | e :: es, x :: l, o, i, hl, h => by
    rw [List.mapIdx_cons] at h
    simp only [List.map_cons, List.cons.injEq, Prod.mk.injEq] at h
    obtain ⟨⟨hk, hv⟩, hr⟩ := h
    have ih := ask_any w b hb es l (o + 1) (i + 1) (fun y hy => hl y (by simp [hy])) (by rw [hr]; congr 1; funext i b; rw [show o + (i + 1) + 1 = o + 1 + i + 1 by omega])
    by_cases e1 : b = x
    · subst e1
      simp only [Instr.findAsking, Sem.run_bind, hk, equal_same hp hte w b, Result.andThen_ok, if_true, Sem.run_pure]
      simp [hv]
    · have e2 : (x == b) = false := by simpa using (fun e => e1 e.symm : ¬ x = b)
      simp only [Instr.findAsking, Sem.run_bind, hk, equal_other hp hte hsz w e1 hb (hl x (by simp)), Result.andThen_ok, Bool.false_eq_true, if_false, ih]
      by_cases hm : b ∈ l
      · have hix : (x :: l).idxOf b = l.idxOf b + 1 := by simp [List.idxOf_cons, e2]
        rw [if_pos hm, if_pos (by simp [hm]), hix]
        rw [show i + 1 + l.idxOf b = i + (l.idxOf b + 1) by omega, show o + 1 + l.idxOf b + 1 = o + (l.idxOf b + 1) + 1 by omega]
      · rw [if_neg hm, if_neg (by simp [hm, e1])]
theorem find_any (w : World) (b : Nat) (hb : Plain w b) (es : List MapEntry) (l : List Nat) (hl : ∀ x ∈ l, Plain w x) (h : es.map (fun e => (e.key, e.val)) = l.mapIdx (fun i b => (bP b, Value.int .i64 ((i + 1 : Nat) : Int)))) :
    (Instr.findKey tp (bP b) es).run Try.prog w = .ok (if b ∈ l then some (l.idxOf b, Value.int .i64 ((l.idxOf b + 1 : Nat) : Int)) else none) w := by
  have h1 := ask_any hp hte hsz w b hb es l 0 0 hl (by simpa using h)
  simp only [Nat.zero_add] at h1
  unfold Instr.findKey
  simp only [Sem.run_bind, run_underlying hp, Result.andThen_ok]
  cases es with
  | nil =>
    cases l with
    | nil => simp [Instr.findNow]
    | cons x l => simp at h
  | cons e es =>
    cases l with
    | nil => simp at h
    | cons x l =>
      have hk : e.key = bP x := by
        rw [List.mapIdx_cons] at h
        simp only [List.map_cons, List.cons.injEq, Prod.mk.injEq] at h
        exact h.1.1
      have : Instr.findNow (.pointer te) (bP b) (e :: es) 0 = none := by
        simp [Instr.findNow, Instr.sameNow, hk, bP]
      simp only [this]
      exact h1
omit hte hsz in
theorem ckPtr (w : World) (b : Nat) (e : Bool) : (Instr.checkKey e 10000 tp (bP b)).run Try.prog w = .ok () w := by
  unfold Instr.checkKey
  simp only [Sem.run_bind, run_underlying hp, Result.andThen, bP]
  rfl
theorem run_lookN {tm : TypeId} (hm : Try.prog.underlying tm = some (.map tp 3)) {w : World} {mB : Nat} {l : List Nat} (h : MN w mB l) (hl : ∀ x ∈ l, Plain w x) {b : Nat} (hb : Plain w b) : (Instr.lookup tm (.map (some mB)) (.pointer (some ⟨b, 0, none⟩)) false).run Try.prog w = .ok (.int .i64 (pl l b : Nat)) w := by
  obtain ⟨es, clock, hbk, he⟩ := h
  have h1 := find_any hp hte hsz w b hb es.toList l hl he
  have h2 := ckPtr hp w b es.isEmpty
  unfold bP at h1 h2
  simp only [Instr.lookup, Sem.run_bind, run_underlying hm, Result.andThen_ok, MapKept.run_getObj_map hbk, Sem.run_pure, h2, h1]
  unfold pl
  by_cases hmm : b ∈ l
  · rw [if_pos hmm, if_pos hmm]
    rfl
  · rw [if_neg hmm, if_neg hmm]
    simp only [Sem.run_bind, zero3, Result.andThen_ok]
    rfl
theorem run_updN {tm : TypeId} (hm : Try.prog.underlying tm = some (.map tp 3)) {w : World} {mB : Nat} {l : List Nat} (h : MN w mB l) (hl : ∀ x ∈ l, Plain w x) {b : Nat} (hb : Plain w b) (hn : b ∉ l) : ∃ w', (Instr.mapUpdate tm (.map (some mB)) (.pointer (some ⟨b, 0, none⟩)) (.int .i64 ((l.length : Int) + 1))).run Try.prog w = .ok () w' ∧ MN w' mB (l ++ [b]) ∧ Ch (fun j => j = mB) w w' := by
  obtain ⟨es, clock, hbk, he⟩ := h
  have h1 := find_any hp hte hsz w b hb es.toList l hl he
  have h2 := ckPtr hp w b false
  unfold bP at h1 h2
  rw [if_neg hn] at h1
  refine ⟨wput w mB (.map (es.push { key := .pointer (some ⟨b, 0, none⟩), val := .int .i64 ((l.length : Int) + 1), born := clock }) (clock + 1)), ?_, ⟨_, _, (MapKept.heap_set hbk).1, ?_⟩, ⟨by simp [wput], fun j _ hne => (MapKept.heap_set hbk).2 j hne, rfl, rfl⟩⟩
  · simp only [Instr.mapUpdate, Sem.run_bind, run_underlying hm, Result.andThen_ok, MapKept.run_getObj_map hbk, h2, h1]
    exact MapKept.run_setObj_map _ hbk
  · rw [List.mapIdx_append]
    simp [he, bP]
end
theorem run_lenN {w : World} {mB : Nat} {l : List Nat} (h : MN w mB l) {tm tp : TypeId} (hm : Try.prog.underlying tm = some (.map tp 3)) (ty : TypeId) : (Builtin.len_ #[tm] ty #[.map (some mB)]).run Try.prog w = .ok (.int .i64 (l.length : Int)) w := by
  obtain ⟨es, clock, hb, he⟩ := h
  have e : es.size = l.length := by
    have := congrArg List.length he
    simpa using this
  simp [Builtin.len_, run_underlying hm, MapKept.run_getObj_map hb, goInt, Result.andThen, e]
theorem run_lookB {tm tv : TypeId} (hm : Try.prog.underlying tm = some (.map 3 tv)) (hz : ∀ w, (zeroValue tv).run Try.prog w = .ok (.pointer none) w) {w : World} {mB : Nat} {l : List (Int × Nat)} (h : MB w mB l) (k : Int) : (Instr.lookup tm (.map (some mB)) (.int .i64 k) false).run Try.prog w = .ok (oP (l.lookup k)) w := by
  obtain ⟨es, clock, hb, he⟩ := h
  obtain ⟨h1, h2⟩ := findNow_ip k es.toList l 0 he
  cases hk : l.lookup k with
  | none =>
    simp only [Instr.lookup, Sem.run_bind, run_underlying hm, Result.andThen_ok, MapKept.run_getObj_map hb, Sem.run_pure, ckInt, MapKept.run_findKey Try.und3 (h1 hk), hz]
    rfl
  | some v =>
    obtain ⟨j, hj⟩ := h2 v hk
    simp only [Instr.lookup, Sem.run_bind, run_underlying hm, Result.andThen_ok, MapKept.run_getObj_map hb, Sem.run_pure, ckInt, MapKept.run_findKey Try.und3 hj]
    rfl
theorem run_updB {tm tv : TypeId} (hm : Try.prog.underlying tm = some (.map 3 tv)) {w : World} {mB : Nat} {l : List (Int × Nat)} (h : MB w mB l) {k : Int} (hk : l.lookup k = none) (b : Nat) : ∃ w', (Instr.mapUpdate tm (.map (some mB)) (.int .i64 k) (.pointer (some ⟨b, 0, none⟩))).run Try.prog w = .ok () w' ∧ MB w' mB (l ++ [(k, b)]) ∧ Ch (fun j => j = mB) w w' := by
  obtain ⟨es, clock, hb, he⟩ := h
  obtain ⟨h1, h2⟩ := findNow_ip k es.toList l 0 he
  refine ⟨wput w mB (.map (es.push { key := .int .i64 k, val := .pointer (some ⟨b, 0, none⟩), born := clock }) (clock + 1)), ?_, ⟨_, _, (MapKept.heap_set hb).1, ?_⟩, ⟨by simp [wput], fun j _ hne => (MapKept.heap_set hb).2 j hne, rfl, rfl⟩⟩
  · simp only [Instr.mapUpdate, Sem.run_bind, run_underlying hm, Result.andThen_ok, MapKept.run_getObj_map hb, ckInt, MapKept.run_findKey Try.und3 (h1 hk)]
    exact MapKept.run_setObj_map _ hb
  · simp [he, bP]

theorem und_node : Try.prog.underlying 45 = some (.map 3 61) := by kernel_rfl
theorem zero_node (w : World) : (zeroValue 61).run Try.prog w = .ok (.pointer none) w := by kernel_rfl
set_option maxRecDepth 100000 in
set_option maxHeartbeats 2000000 in
/-- What a number stands for, a new thing perhaps. -/
theorem met_node (w : World) (mB : Nat) (l : List (Int × Nat)) (h : MB w mB l) (k : Int) :
    Calls Try.prog 24 #[.map (some mB), .int .i64 k] w fun e w' => (∀ b, l.lookup k = some b → e = .returned (.pointer (some ⟨b, 0, none⟩)) ∧ w' = w) ∧
      (l.lookup k = none → e = .returned (.pointer (some ⟨w.heap.size, 0, none⟩)) ∧ MB w' mB (l ++ [(k, w.heap.size)]) ∧ Ch (fun j => j = mB) w w' ∧ w'.heap[w.heap.size]? = some (.cells #[.int .i64 0, .slice none 0 0, .slice none 0 0, .pointer none, .pointer none, .int .i64 0, .int .i64 0] 78 (0, 0))) := by
  have hlk := run_lookB und_node zero_node h k
  cases hx : l.lookup k with
  | some b =>
    rw [hx] at hlk
    simp only [oP_some] at hlk
    replace hx := hid hx
    replace h := hid h
    go_enter Try.func24, Try.ntmps24
    go_wp2
    go_ret
    exact ⟨(fun b' hb' => by cases hb'; exact ⟨rfl, rfl⟩), (fun e => by cases e)⟩
  | none =>
    rw [hx] at hlk
    simp only [oP_none] at hlk
    have ha := al_ch w (.cells #[.int .i64 0, .slice none 0 0, .slice none 0 0, .pointer none, .pointer none, .int .i64 0, .int .i64 0] 78)
    obtain ⟨w1, hu, s1, c1⟩ := run_updB und_node (h.keep ha (fun h => h)) hx w.heap.size
    have hl2 : (l ++ [(k, w.heap.size)]).lookup k = some w.heap.size := by
      rw [List.lookup_append, hx]
      simp [List.lookup]
    have hlk2 := run_lookB und_node zero_node s1 k
    rw [hl2] at hlk2
    simp only [oP_some] at hlk2
    have hbk := (c1.same _ (Array.getElem?_eq_some_iff.1 (World.alloc_heap_new w (.cells #[.int .i64 0, .slice none 0 0, .slice none 0 0, .pointer none, .pointer none, .int .i64 0, .int .i64 0] 78))).1 (fun e => by have := h.lt; omega)).trans (World.alloc_heap_new w (.cells #[.int .i64 0, .slice none 0 0, .slice none 0 0, .pointer none, .pointer none, .int .i64 0, .int .i64 0] 78))
    have hcw := (ha.mono (O1 := fun j => j = mB) (fun _ h => h.elim)).trans c1 (fun _ h => .inl h)
    replace hx := hid hx
    replace h := hid h
    replace s1 := hid s1
    replace hbk := hid hbk
    replace hcw := hid hcw
    clear c1 ha hl2
    go_enter Try.func24, Try.ntmps24
    go_wp2
    go_ret
    exact ⟨(fun b' hb' => by cases hb'), fun _ => ⟨rfl, s1.out, hcw.out, hbk.out⟩⟩

theorem und_rest : Try.prog.underlying 46 = some (.map 3 74) := by kernel_rfl
theorem zero_rest (w : World) : (zeroValue 74).run Try.prog w = .ok (.pointer none) w := by kernel_rfl
set_option maxRecDepth 100000 in
set_option maxHeartbeats 2000000 in
/-- What a number stands for, a new thing perhaps. -/
theorem met_rest (w : World) (mB : Nat) (l : List (Int × Nat)) (h : MB w mB l) (k : Int) :
    Calls Try.prog 26 #[.map (some mB), .int .i64 k] w fun e w' => (∀ b, l.lookup k = some b → e = .returned (.pointer (some ⟨b, 0, none⟩)) ∧ w' = w) ∧
      (l.lookup k = none → e = .returned (.pointer (some ⟨w.heap.size, 0, none⟩)) ∧ MB w' mB (l ++ [(k, w.heap.size)]) ∧ Ch (fun j => j = mB) w w' ∧ w'.heap[w.heap.size]? = some (.cells #[.pointer none, .int .i64 0] 83 (0, 0))) := by
  have hlk := run_lookB und_rest zero_rest h k
  cases hx : l.lookup k with
  | some b =>
    rw [hx] at hlk
    simp only [oP_some] at hlk
    replace hx := hid hx
    replace h := hid h
    go_enter Try.func26, Try.ntmps26
    go_wp2
    go_ret
    exact ⟨(fun b' hb' => by cases hb'; exact ⟨rfl, rfl⟩), (fun e => by cases e)⟩
  | none =>
    rw [hx] at hlk
    simp only [oP_none] at hlk
    have ha := al_ch w (.cells #[.pointer none, .int .i64 0] 83)
    obtain ⟨w1, hu, s1, c1⟩ := run_updB und_rest (h.keep ha (fun h => h)) hx w.heap.size
    have hl2 : (l ++ [(k, w.heap.size)]).lookup k = some w.heap.size := by
      rw [List.lookup_append, hx]
      simp [List.lookup]
    have hlk2 := run_lookB und_rest zero_rest s1 k
    rw [hl2] at hlk2
    simp only [oP_some] at hlk2
    have hbk := (c1.same _ (Array.getElem?_eq_some_iff.1 (World.alloc_heap_new w (.cells #[.pointer none, .int .i64 0] 83))).1 (fun e => by have := h.lt; omega)).trans (World.alloc_heap_new w (.cells #[.pointer none, .int .i64 0] 83))
    have hcw := (ha.mono (O1 := fun j => j = mB) (fun _ h => h.elim)).trans c1 (fun _ h => .inl h)
    replace hx := hid hx
    replace h := hid h
    replace s1 := hid s1
    replace hbk := hid hbk
    replace hcw := hid hcw
    clear c1 ha hl2
    go_enter Try.func26, Try.ntmps26
    go_wp2
    go_ret
    exact ⟨(fun b' hb' => by cases hb'), fun _ => ⟨rfl, s1.out, hcw.out, hbk.out⟩⟩

theorem undn_node : Try.prog.underlying 86 = some (.map 61 3) := by kernel_rfl
set_option maxRecDepth 100000 in
set_option maxHeartbeats 2000000 in
/-- The number of a thing, the next one if it has none yet. -/
theorem numbered_node (w : World) (mB : Nat) (l : List Nat) (h : MN w mB l) (hl : ∀ x ∈ l, Plain w x) (b : Nat) (hb : Plain w b) (hn : l.length < 1000000000) :
    Calls Try.prog 30 #[.map (some mB), .pointer (some ⟨b, 0, none⟩)] w fun e w' => e = .returned (.int .i64 ((Gr.numOf l b).1 : Nat)) ∧ MN w' mB (Gr.numOf l b).2 ∧ Ch (fun j => j = mB) w w' := by
  obtain ⟨j, hj, hz⟩ := info_node
  have hlk := run_lookN Try.underlying61 hj hz undn_node h hl hb
  have hlen := run_lenN h undn_node 3
  unfold Gr.numOf
  by_cases hm : b ∈ l
  · rw [if_pos hm]
    have hp : pl l b = l.idxOf b + 1 := if_pos hm
    rw [hp] at hlk
    have hk0 : (((l.idxOf b + 1 : Nat) : Int) == 0) = false := by rw [beq_eq_false_iff_ne]; omega
    replace hm := hid hm
    replace h := hid h
    replace hl := hid hl
    replace hb := hid hb
    replace hj := hid hj
    clear hlen hp
    generalize l.idxOf b + 1 = n at *
    go_enter Try.func30, Try.ntmps30
    go_wp2
    go_ret
    exact ⟨rfl, h.out, Ch.refl _ _⟩
  · rw [if_neg hm]
    have hp : pl l b = 0 := if_neg hm
    rw [hp] at hlk
    obtain ⟨w1, hu, s1, c1⟩ := run_updN Try.underlying61 hj hz undn_node h hl hb hm
    have hplain : ∀ x, Plain w x → Plain w1 x := fun x ⟨cs, T, hx⟩ => by
      refine ⟨cs, T, (c1.same x (Array.getElem?_eq_some_iff.1 hx).1 (fun e => ?_)).trans hx⟩
      obtain ⟨es, ck, h1, _⟩ := h
      rw [e, h1] at hx
      cases hx
    have hlk2 := run_lookN Try.underlying61 hj hz undn_node s1 (fun x hx => by
      rcases List.mem_append.1 hx with hx | hx
      · exact hplain x (hl x hx)
      · obtain rfl := List.mem_singleton.1 hx
        exact hplain x hb) (hplain b hb)
    have hp2 : pl (l ++ [b]) b = l.length + 1 := by
      unfold pl
      rw [if_pos (by simp), List.idxOf_append, if_neg hm]
      simp
    rw [hp2] at hlk2
    have hbI : (l.length : Int) < 1000000000 := by omega
    replace hm := hid hm
    replace h := hid h
    replace hl := hid hl
    replace hb := hid hb
    replace hj := hid hj
    replace s1 := hid s1
    clear hp hp2 hplain
    go_enter Try.func30, Try.ntmps30
    go_wp2
    go_ret
    exact ⟨rfl, s1.out, c1⟩

theorem undn_rest : Try.prog.underlying 87 = some (.map 74 3) := by kernel_rfl
set_option maxRecDepth 100000 in
set_option maxHeartbeats 2000000 in
/-- The number of a thing, the next one if it has none yet. -/
theorem numbered_rest (w : World) (mB : Nat) (l : List Nat) (h : MN w mB l) (hl : ∀ x ∈ l, Plain w x) (b : Nat) (hb : Plain w b) (hn : l.length < 1000000000) :
    Calls Try.prog 33 #[.map (some mB), .pointer (some ⟨b, 0, none⟩)] w fun e w' => e = .returned (.int .i64 ((Gr.numOf l b).1 : Nat)) ∧ MN w' mB (Gr.numOf l b).2 ∧ Ch (fun j => j = mB) w w' := by
  obtain ⟨j, hj, hz⟩ := info_rest
  have hlk := run_lookN Try.underlying74 hj hz undn_rest h hl hb
  have hlen := run_lenN h undn_rest 3
  unfold Gr.numOf
  by_cases hm : b ∈ l
  · rw [if_pos hm]
    have hp : pl l b = l.idxOf b + 1 := if_pos hm
    rw [hp] at hlk
    have hk0 : (((l.idxOf b + 1 : Nat) : Int) == 0) = false := by rw [beq_eq_false_iff_ne]; omega
    replace hm := hid hm
    replace h := hid h
    replace hl := hid hl
    replace hb := hid hb
    replace hj := hid hj
    clear hlen hp
    generalize l.idxOf b + 1 = n at *
    go_enter Try.func33, Try.ntmps33
    go_wp2
    go_ret
    exact ⟨rfl, h.out, Ch.refl _ _⟩
  · rw [if_neg hm]
    have hp : pl l b = 0 := if_neg hm
    rw [hp] at hlk
    obtain ⟨w1, hu, s1, c1⟩ := run_updN Try.underlying74 hj hz undn_rest h hl hb hm
    have hplain : ∀ x, Plain w x → Plain w1 x := fun x ⟨cs, T, hx⟩ => by
      refine ⟨cs, T, (c1.same x (Array.getElem?_eq_some_iff.1 hx).1 (fun e => ?_)).trans hx⟩
      obtain ⟨es, ck, h1, _⟩ := h
      rw [e, h1] at hx
      cases hx
    have hlk2 := run_lookN Try.underlying74 hj hz undn_rest s1 (fun x hx => by
      rcases List.mem_append.1 hx with hx | hx
      · exact hplain x (hl x hx)
      · obtain rfl := List.mem_singleton.1 hx
        exact hplain x hb) (hplain b hb)
    have hp2 : pl (l ++ [b]) b = l.length + 1 := by
      unfold pl
      rw [if_pos (by simp), List.idxOf_append, if_neg hm]
      simp
    rw [hp2] at hlk2
    have hbI : (l.length : Int) < 1000000000 := by omega
    replace hm := hid hm
    replace h := hid h
    replace hl := hid hl
    replace hb := hid hb
    replace hj := hid hj
    replace s1 := hid s1
    clear hp hp2 hplain
    go_enter Try.func33, Try.ntmps33
    go_wp2
    go_ret
    exact ⟨rfl, s1.out, c1⟩
end Go.Proofs.Ytcogpcalghfghaa
