/-
  The program's reader: a code.
  The program's reader: a code, for every text.
-/
import Derived.Test.YtpjbfdpblgjmfaaGreatDoorMG
set_option linter.unusedVariables false
set_option linter.unusedSimpArgs false
namespace Go.Proofs.YtpjbfdpblgjmfaaGreatDoor
open Go.RowKit Go.Lib

def CdPost (b : Nat) (s : List UInt8) (W : World) (q : Cd.Code × Cd.Rd) (e : Ending) (w' : World) : Prop :=
  ∃ (t : List UInt8) (ao : Option Addr) (no co : Nat) (ah : Option Addr) (nh ch : Nat) (af : Option Addr) (nf cf : Nat), e = .returned (.tuple #[.agg #[.string ⟨t.toArray⟩, .slice ao no co, .slice ah nh ch, .slice af nf cf], errV q.2]) ∧ W.grownBy w' (some b) ∧ (q.2.fk = 0 → q.1.shape = t ∧ ∀ w2 : World, (∀ k, W.heap.size ≤ k → k < w'.heap.size → w2.heap[k]? = w'.heap[k]?) → CodeM w2 (.slice ao no co) (.slice ah nh ch) (.slice af nf cf) q.1)
theorem cod_fin {b : Nat} {s : List UInt8} {W w' : World} {q : Cd.Code × Cd.Rd} {a' : Act} {oB : Nat} {t : List UInt8} {ao : Option Addr} {no co : Nat} {ah : Option Addr} {nh ch : Nat} {af : Option Addr} {nf cf : Nat} {ev : Value} (hd : a'.defers = []) (h2 : a'.tmps[2]? = some (.pointer (some ⟨oB, 0, none⟩))) (h3 : a'.tmps[3]? = some ev) (hB : w'.heap[oB]? = some (.cells #[.string ⟨t.toArray⟩, .slice ao no co, .slice ah nh ch, .slice af nf cf] 38 (0, 0))) (hev : errV q.2 = ev) (hg : W.grownBy w' (some b)) (hr : q.2.fk = 0 → q.1.shape = t ∧ ∀ w2 : World, (∀ k, W.heap.size ≤ k → k < w'.heap.size → w2.heap[k]? = w'.heap[k]?) → CodeM w2 (.slice ao no co) (.slice ah nh ch) (.slice af nf cf) q.1) : bodyPost Tryz.prog Tryz.f21 (CdPost b s W q) .ret a' w' := by
  have c0 : w'.cell? ⟨oB, 0, none⟩ = some (.string ⟨t.toArray⟩) := by simp [World.cell?, hB]
  have c1 : w'.cell? ⟨oB, 1, none⟩ = some (.slice ao no co) := by simp [World.cell?, hB]
  have c2 : w'.cell? ⟨oB, 2, none⟩ = some (.slice ah nh ch) := by simp [World.cell?, hB]
  have c3 : w'.cell? ⟨oB, 3, none⟩ = some (.slice af nf cf) := by simp [World.cell?, hB]
  refine bodyPost_ret (v := .tuple #[.agg #[.string ⟨t.toArray⟩, .slice ao no co, .slice ah nh ch, .slice af nf cf], ev]) ?_ hd ⟨t, ao, no, co, ah, nh, ch, af, nf, cf, by rw [hev], hg, hr⟩
  simp [results, Tryz.results21, go_sem, h2, h3, c0, c1, c2, c3]
theorem hop {w w' : World} {b o i : Nat} {v : Value} {k : Nat} (hp : (w.setCell ⟨o, i, none⟩ v).grownBy w' (some b)) (hk : k < w.heap.size) (hb : k ≠ b) (ho : k ≠ o) : w'.heap[k]? = w.heap[k]? :=
  (hp.block k (by simpa using hk) (by simp; omega)).trans (Below.heap_setCell w _ _ k (by dsimp only; omega))
theorem lt_same {w w' : World} {k : Nat} (h : w'.heap[k]? = w.heap[k]?) (hk : k < w.heap.size) : k < w'.heap.size := by
  rw [Array.getElem?_eq_getElem hk] at h
  exact (Array.getElem?_eq_some_iff.1 h).1
theorem endR_bad {s : List UInt8} {r : Cd.Rd} (h : r.fk ≠ 0) : endR s r = r := by
  unfold endR
  rw [if_neg (fun hh => h hh.1)]
theorem many_bad {α : Type} {g : Cd.Rd → α × Cd.Rd} {s : List UInt8} {n : Nat} {r : Cd.Rd} (h : r.fk ≠ 0) : Cd.Rd.manyL g (r.num s n).1 (r.num s n).2 = ([], r) := by
  rw [bad_num' h]
  exact many_stop g 0 r h

set_option maxRecDepth 100000 in
set_option maxHeartbeats 8000000 in
theorem code_leaf0 (W : World) (b : Nat) (s : List UInt8) (hs : s.length ≤ 4000000) (hbl : b < W.heap.size)  (r : Cd.Rd) (hr : r.fk ≠ 0) (q : Cd.Code × Cd.Rd) (hq : q.2 = r) (HH : Hid (Calls Tryz.prog 48 #[.pointer (some ⟨b, 0, none⟩)] (W.alloc (.cells #[.string ⟨#[]⟩, .slice none 0 0, .slice none 0 0, .slice none 0 0] 38)) (fun e w' => e = .returned (.iface 78 (.agg #[.int .i64 (r.fk : Nat), .int .i64 (r.fa : Nat)])) ∧ (∃ p, p ≤ s.length ∧ PM w' b s p ∧ (False → p = 3)) ∧ (W.alloc (.cells #[.string ⟨#[]⟩, .slice none 0 0, .slice none 0 0, .slice none 0 0] 38)).grownBy w' (some b)))) :
    Calls Tryz.prog 21 #[.pointer (some ⟨b, 0, none⟩)] W (CdPost b s W q) := by
  have hB00 : (W.alloc (.cells #[.string ⟨#[]⟩, .slice none 0 0, .slice none 0 0, .slice none 0 0] 38)).heap[W.heap.size]? = some (.cells #[.string ⟨([] : List UInt8).toArray⟩, .slice none 0 0, .slice none 0 0, .slice none 0 0] 38 (0, 0)) := World.alloc_heap_new W _
  go_enter Tryz.func21, Tryz.ntmps21
  go_wp2_with (first
        | (go_at_call 48; refine HH.out.mono ?_; clear HH; rintro en w0 ⟨rfl, ⟨p0, hp0, h0, hz0⟩, hg0⟩
           have hB0 := (hg0.block W.heap.size (by simp) (by simp; omega)).trans hB00
           have k00 : w0.cell? ⟨W.heap.size, 0, none⟩ = some (.string ⟨#[]⟩) := by simp [World.cell?, hB0]
           have k01 : w0.cell? ⟨W.heap.size, 1, none⟩ = some (.slice none 0 0) := by simp [World.cell?, hB0]
           have k02 : w0.cell? ⟨W.heap.size, 2, none⟩ = some (.slice none 0 0) := by simp [World.cell?, hB0]
           have k03 : w0.cell? ⟨W.heap.size, 3, none⟩ = some (.slice none 0 0) := by simp [World.cell?, hB0]
           have kf0 : ∀ i, w0.frozen? ⟨W.heap.size, i, none⟩ = false := fun i => by simp [World.frozen?, hB0]
           replace hg0 := hid (grown_trans (grown_alloc (grown_refl W (some b)) _) hg0)
           replace hB0 := hid hB0
           have h0' := hid (And.intro h0 hz0)
           clear h0 hz0)
        | go_in)
  refine cod_fin (t := []) (ao := none) (no := 0) (co := 0) (ah := none) (nh := 0) (ch := 0) (af := none) (nf := 0) (cf := 0) (oB := W.heap.size) (ev := .iface 78 (.agg #[.int .i64 (r.fk : Nat), .int .i64 (r.fa : Nat)])) rfl rfl rfl ?_ (by rw [hq, errV_no hr]) (grown_newc (grown_newc (grown_newc (grown_newc hg0.out (Nat.le_refl _)) (Nat.le_refl _)) (Nat.le_refl _)) (Nat.le_refl _)) (fun h => absurd (hq ▸ h) hr)
  exact (blk_set (blk_set (blk_set (blk_set hB0.out))))
set_option maxRecDepth 100000 in
set_option maxHeartbeats 8000000 in
theorem code_leaf1 (W : World) (b : Nat) (s : List UInt8) (hs : s.length ≤ 4000000) (hbl : b < W.heap.size)  (t : List UInt8) (r : Cd.Rd) (hr : r.fk ≠ 0) (q : Cd.Code × Cd.Rd) (hq : q.2 = r) (HH : Hid (Calls Tryz.prog 48 #[.pointer (some ⟨b, 0, none⟩)] (W.alloc (.cells #[.string ⟨#[]⟩, .slice none 0 0, .slice none 0 0, .slice none 0 0] 38)) (fun e w' => e = .returned .nilIface ∧ (∃ p, p ≤ s.length ∧ PM w' b s p ∧ (True → p = 3)) ∧ (W.alloc (.cells #[.string ⟨#[]⟩, .slice none 0 0, .slice none 0 0, .slice none 0 0] 38)).grownBy w' (some b)))) (H1 : Hid (∀ V : World, PM V b s 3 → Calls Tryz.prog 49 #[.pointer (some ⟨b, 0, none⟩), .int .i64 2, .int .i64 65535] V (fun e w' => e = .returned (.tuple #[.string ⟨t.toArray⟩, (.iface 78 (.agg #[.int .i64 (r.fk : Nat), .int .i64 (r.fa : Nat)]))]) ∧ PM w' b s r.pos ∧ V.grownBy w' (some b)))) :
    Calls Tryz.prog 21 #[.pointer (some ⟨b, 0, none⟩)] W (CdPost b s W q) := by
  have hB00 : (W.alloc (.cells #[.string ⟨#[]⟩, .slice none 0 0, .slice none 0 0, .slice none 0 0] 38)).heap[W.heap.size]? = some (.cells #[.string ⟨([] : List UInt8).toArray⟩, .slice none 0 0, .slice none 0 0, .slice none 0 0] 38 (0, 0)) := World.alloc_heap_new W _
  have hd0 : ∀ {V : World} {p : Nat}, (PM V b s p ∧ (True → p = 3)) → PM V b s 3 := fun h => by obtain ⟨h1, h2⟩ := h; obtain rfl := h2 trivial; exact h1
  go_enter Tryz.func21, Tryz.ntmps21
  go_wp2_with (first
        | (go_at_call 48; refine HH.out.mono ?_; clear HH; rintro en w0 ⟨rfl, ⟨p0, hp0, h0, hz0⟩, hg0⟩
           have hB0 := (hg0.block W.heap.size (by simp) (by simp; omega)).trans hB00
           have k00 : w0.cell? ⟨W.heap.size, 0, none⟩ = some (.string ⟨#[]⟩) := by simp [World.cell?, hB0]
           have k01 : w0.cell? ⟨W.heap.size, 1, none⟩ = some (.slice none 0 0) := by simp [World.cell?, hB0]
           have k02 : w0.cell? ⟨W.heap.size, 2, none⟩ = some (.slice none 0 0) := by simp [World.cell?, hB0]
           have k03 : w0.cell? ⟨W.heap.size, 3, none⟩ = some (.slice none 0 0) := by simp [World.cell?, hB0]
           have kf0 : ∀ i, w0.frozen? ⟨W.heap.size, i, none⟩ = false := fun i => by simp [World.frozen?, hB0]
           replace hg0 := hid (grown_trans (grown_alloc (grown_refl W (some b)) _) hg0)
           replace hB0 := hid hB0
           have h0' := hid (And.intro h0 hz0)
           clear h0 hz0)
        | (go_at_call 49; refine (H1.out _ (hd0 h0'.out)).mono ?_; clear H1; rintro en w1 ⟨rfl, h1, hg1⟩
           have hl1 := (Array.getElem?_eq_some_iff.1 hB0.out).1
           have hB1 := (hg1.block W.heap.size hl1 (by simp; omega)).trans hB0.out
           replace hl1 := hid hl1
           have k10 : w1.cell? ⟨W.heap.size, 0, none⟩ = some (.string ⟨#[]⟩) := by simp [World.cell?, hB1]
           have k11 : w1.cell? ⟨W.heap.size, 1, none⟩ = some (.slice none 0 0) := by simp [World.cell?, hB1]
           have k12 : w1.cell? ⟨W.heap.size, 2, none⟩ = some (.slice none 0 0) := by simp [World.cell?, hB1]
           have k13 : w1.cell? ⟨W.heap.size, 3, none⟩ = some (.slice none 0 0) := by simp [World.cell?, hB1]
           have kf1 : ∀ i, w1.frozen? ⟨W.heap.size, i, none⟩ = false := fun i => by simp [World.frozen?, hB1]
           have hp1 := hid hg1
           replace h1 := hid h1
           replace hg1 := hid (grown_trans (hg0.out) hg1)
           replace hB1 := hid (blk_set (i := 0) (v := .string ⟨t.toArray⟩) hB1))
        | go_in)
  refine cod_fin (t := t) (ao := none) (no := 0) (co := 0) (ah := none) (nh := 0) (ch := 0) (af := none) (nf := 0) (cf := 0) (oB := W.heap.size) (ev := .iface 78 (.agg #[.int .i64 (r.fk : Nat), .int .i64 (r.fa : Nat)])) rfl rfl rfl ?_ (by rw [hq, errV_no hr]) (grown_newc (grown_newc (grown_newc (grown_newc (grown_newc hg1.out (Nat.le_refl _)) (Nat.le_refl _)) (Nat.le_refl _)) (Nat.le_refl _)) (Nat.le_refl _)) (fun h => absurd (hq ▸ h) hr)
  exact (blk_set (blk_set (blk_set (blk_set hB1.out))))
set_option maxRecDepth 100000 in
set_option maxHeartbeats 8000000 in
theorem code_leaf2 (W : World) (b : Nat) (s : List UInt8) (hs : s.length ≤ 4000000) (hbl : b < W.heap.size) (t : List UInt8) (p1 : Nat) (r : Cd.Rd) (hr : r.fk ≠ 0) (q : Cd.Code × Cd.Rd) (hq : q.2 = r) (HH : Hid (Calls Tryz.prog 48 #[.pointer (some ⟨b, 0, none⟩)] (W.alloc (.cells #[.string ⟨#[]⟩, .slice none 0 0, .slice none 0 0, .slice none 0 0] 38)) (fun e w' => e = .returned .nilIface ∧ (∃ p, p ≤ s.length ∧ PM w' b s p ∧ (True → p = 3)) ∧ (W.alloc (.cells #[.string ⟨#[]⟩, .slice none 0 0, .slice none 0 0, .slice none 0 0] 38)).grownBy w' (some b)))) (H1 : Hid (∀ V : World, PM V b s 3 → Calls Tryz.prog 49 #[.pointer (some ⟨b, 0, none⟩), .int .i64 2, .int .i64 65535] V (fun e w' => e = .returned (.tuple #[.string ⟨t.toArray⟩, .nilIface]) ∧ PM w' b s p1 ∧ V.grownBy w' (some b)))) (H2 : Hid (∀ V : World, PM V b s p1 → Calls Tryz.prog 50 #[.pointer (some ⟨b, 0, none⟩), .int .i64 1, .func (.func 51) #[.pointer (some ⟨b, 0, none⟩)] #[]] V (fun e w' => ∃ a n c, e = .returned (.tuple #[.slice a n c, (.iface 78 (.agg #[.int .i64 (r.fk : Nat), .int .i64 (r.fa : Nat)]))]) ∧ PM w' b s r.pos ∧ V.grownBy w' (some b) ∧ True ∧ (True)))) :
    Calls Tryz.prog 21 #[.pointer (some ⟨b, 0, none⟩)] W (CdPost b s W q) := by
  have hB00 : (W.alloc (.cells #[.string ⟨#[]⟩, .slice none 0 0, .slice none 0 0, .slice none 0 0] 38)).heap[W.heap.size]? = some (.cells #[.string ⟨([] : List UInt8).toArray⟩, .slice none 0 0, .slice none 0 0, .slice none 0 0] 38 (0, 0)) := World.alloc_heap_new W _
  have hd0 : ∀ {V : World} {p : Nat}, (PM V b s p ∧ (True → p = 3)) → PM V b s 3 := fun h => by obtain ⟨h1, h2⟩ := h; obtain rfl := h2 trivial; exact h1
  go_enter Tryz.func21, Tryz.ntmps21
  go_wp2_with (first
        | (go_at_call 48; refine HH.out.mono ?_; clear HH; rintro en w0 ⟨rfl, ⟨p0, hp0, h0, hz0⟩, hg0⟩
           have hB0 := (hg0.block W.heap.size (by simp) (by simp; omega)).trans hB00
           have k00 : w0.cell? ⟨W.heap.size, 0, none⟩ = some (.string ⟨#[]⟩) := by simp [World.cell?, hB0]
           have k01 : w0.cell? ⟨W.heap.size, 1, none⟩ = some (.slice none 0 0) := by simp [World.cell?, hB0]
           have k02 : w0.cell? ⟨W.heap.size, 2, none⟩ = some (.slice none 0 0) := by simp [World.cell?, hB0]
           have k03 : w0.cell? ⟨W.heap.size, 3, none⟩ = some (.slice none 0 0) := by simp [World.cell?, hB0]
           have kf0 : ∀ i, w0.frozen? ⟨W.heap.size, i, none⟩ = false := fun i => by simp [World.frozen?, hB0]
           replace hg0 := hid (grown_trans (grown_alloc (grown_refl W (some b)) _) hg0)
           replace hB0 := hid hB0
           have h0' := hid (And.intro h0 hz0)
           clear h0 hz0)
        | (go_at_call 49; refine (H1.out _ (hd0 h0'.out)).mono ?_; clear H1; rintro en w1 ⟨rfl, h1, hg1⟩
           have hl1 := (Array.getElem?_eq_some_iff.1 hB0.out).1
           have hB1 := (hg1.block W.heap.size hl1 (by simp; omega)).trans hB0.out
           replace hl1 := hid hl1
           have k10 : w1.cell? ⟨W.heap.size, 0, none⟩ = some (.string ⟨#[]⟩) := by simp [World.cell?, hB1]
           have k11 : w1.cell? ⟨W.heap.size, 1, none⟩ = some (.slice none 0 0) := by simp [World.cell?, hB1]
           have k12 : w1.cell? ⟨W.heap.size, 2, none⟩ = some (.slice none 0 0) := by simp [World.cell?, hB1]
           have k13 : w1.cell? ⟨W.heap.size, 3, none⟩ = some (.slice none 0 0) := by simp [World.cell?, hB1]
           have kf1 : ∀ i, w1.frozen? ⟨W.heap.size, i, none⟩ = false := fun i => by simp [World.frozen?, hB1]
           have hp1 := hid hg1
           replace h1 := hid h1
           replace hg1 := hid (grown_trans (hg0.out) hg1)
           replace hB1 := hid (blk_set (i := 0) (v := .string ⟨t.toArray⟩) hB1))
        | (go_at_call 50; refine (H2.out _ (h1.out.far (by omega))).mono ?_; clear H2; rintro en w2 ⟨ao, no, co, rfl, h2, hg2, hq2, hd2⟩
           have hl2 := (Array.getElem?_eq_some_iff.1 hB1.out).1
           have hB2 := (hg2.block W.heap.size hl2 (by simp; omega)).trans hB1.out
           replace hl2 := hid hl2
           have k20 : w2.cell? ⟨W.heap.size, 0, none⟩ = some (.string ⟨t.toArray⟩) := by simp [World.cell?, hB2]
           have k21 : w2.cell? ⟨W.heap.size, 1, none⟩ = some (.slice none 0 0) := by simp [World.cell?, hB2]
           have k22 : w2.cell? ⟨W.heap.size, 2, none⟩ = some (.slice none 0 0) := by simp [World.cell?, hB2]
           have k23 : w2.cell? ⟨W.heap.size, 3, none⟩ = some (.slice none 0 0) := by simp [World.cell?, hB2]
           have kf2 : ∀ i, w2.frozen? ⟨W.heap.size, i, none⟩ = false := fun i => by simp [World.frozen?, hB2]
           have hp2 := hid hg2
           replace h2 := hid h2
           replace hg2 := hid (grown_trans ((grown_newc hg1.out (Nat.le_refl _))) hg2)
           replace hB2 := hid (blk_set (i := 1) (v := .slice ao no co) hB2)
           replace hd2 := hid hd2)
        | go_in)
  refine cod_fin (t := t) (ao := ao) (no := no) (co := co) (ah := none) (nh := 0) (ch := 0) (af := none) (nf := 0) (cf := 0) (oB := W.heap.size) (ev := .iface 78 (.agg #[.int .i64 (r.fk : Nat), .int .i64 (r.fa : Nat)])) rfl rfl rfl ?_ (by rw [hq, errV_no hr]) (grown_newc (grown_newc (grown_newc (grown_newc (grown_newc hg2.out (Nat.le_refl _)) (Nat.le_refl _)) (Nat.le_refl _)) (Nat.le_refl _)) (Nat.le_refl _)) (fun h => absurd (hq ▸ h) hr)
  exact (blk_set (blk_set (blk_set (blk_set hB2.out))))
set_option maxRecDepth 100000 in
set_option maxHeartbeats 8000000 in
theorem code_leaf3 (W : World) (b : Nat) (s : List UInt8) (hs : s.length ≤ 4000000) (hbl : b < W.heap.size) (t : List UInt8) (p1 p2 : Nat) (Lo : List Cd.Op) (r : Cd.Rd) (hr : r.fk ≠ 0) (q : Cd.Code × Cd.Rd) (hq : q.2 = r) (HH : Hid (Calls Tryz.prog 48 #[.pointer (some ⟨b, 0, none⟩)] (W.alloc (.cells #[.string ⟨#[]⟩, .slice none 0 0, .slice none 0 0, .slice none 0 0] 38)) (fun e w' => e = .returned .nilIface ∧ (∃ p, p ≤ s.length ∧ PM w' b s p ∧ (True → p = 3)) ∧ (W.alloc (.cells #[.string ⟨#[]⟩, .slice none 0 0, .slice none 0 0, .slice none 0 0] 38)).grownBy w' (some b)))) (H1 : Hid (∀ V : World, PM V b s 3 → Calls Tryz.prog 49 #[.pointer (some ⟨b, 0, none⟩), .int .i64 2, .int .i64 65535] V (fun e w' => e = .returned (.tuple #[.string ⟨t.toArray⟩, .nilIface]) ∧ PM w' b s p1 ∧ V.grownBy w' (some b)))) (H2 : Hid (∀ V : World, PM V b s p1 → Calls Tryz.prog 50 #[.pointer (some ⟨b, 0, none⟩), .int .i64 1, .func (.func 51) #[.pointer (some ⟨b, 0, none⟩)] #[]] V (fun e w' => ∃ a n c, e = .returned (.tuple #[.slice a n c, .nilIface]) ∧ PM w' b s p2 ∧ V.grownBy w' (some b) ∧ True ∧ (∃ D, LsM ROp 2 w' D (.slice a n c) Lo ∧ ∀ k, D k → V.heap.size ≤ k ∧ k < w'.heap.size ∧ k ≠ b)))) (H3 : Hid (∀ V : World, PM V b s p2 → Calls Tryz.prog 52 #[.pointer (some ⟨b, 0, none⟩), .int .i64 2, .func (.func 53) #[.pointer (some ⟨b, 0, none⟩)] #[]] V (fun e w' => ∃ a n c, e = .returned (.tuple #[.slice a n c, (.iface 78 (.agg #[.int .i64 (r.fk : Nat), .int .i64 (r.fa : Nat)]))]) ∧ PM w' b s r.pos ∧ V.grownBy w' (some b) ∧ True ∧ (True)))) :
    Calls Tryz.prog 21 #[.pointer (some ⟨b, 0, none⟩)] W (CdPost b s W q) := by
  have hB00 : (W.alloc (.cells #[.string ⟨#[]⟩, .slice none 0 0, .slice none 0 0, .slice none 0 0] 38)).heap[W.heap.size]? = some (.cells #[.string ⟨([] : List UInt8).toArray⟩, .slice none 0 0, .slice none 0 0, .slice none 0 0] 38 (0, 0)) := World.alloc_heap_new W _
  have hd0 : ∀ {V : World} {p : Nat}, (PM V b s p ∧ (True → p = 3)) → PM V b s 3 := fun h => by obtain ⟨h1, h2⟩ := h; obtain rfl := h2 trivial; exact h1
  go_enter Tryz.func21, Tryz.ntmps21
  go_wp2_with (first
        | (go_at_call 48; refine HH.out.mono ?_; clear HH; rintro en w0 ⟨rfl, ⟨p0, hp0, h0, hz0⟩, hg0⟩
           have hB0 := (hg0.block W.heap.size (by simp) (by simp; omega)).trans hB00
           have k00 : w0.cell? ⟨W.heap.size, 0, none⟩ = some (.string ⟨#[]⟩) := by simp [World.cell?, hB0]
           have k01 : w0.cell? ⟨W.heap.size, 1, none⟩ = some (.slice none 0 0) := by simp [World.cell?, hB0]
           have k02 : w0.cell? ⟨W.heap.size, 2, none⟩ = some (.slice none 0 0) := by simp [World.cell?, hB0]
           have k03 : w0.cell? ⟨W.heap.size, 3, none⟩ = some (.slice none 0 0) := by simp [World.cell?, hB0]
           have kf0 : ∀ i, w0.frozen? ⟨W.heap.size, i, none⟩ = false := fun i => by simp [World.frozen?, hB0]
           replace hg0 := hid (grown_trans (grown_alloc (grown_refl W (some b)) _) hg0)
           replace hB0 := hid hB0
           have h0' := hid (And.intro h0 hz0)
           clear h0 hz0)
        | (go_at_call 49; refine (H1.out _ (hd0 h0'.out)).mono ?_; clear H1; rintro en w1 ⟨rfl, h1, hg1⟩
           have hl1 := (Array.getElem?_eq_some_iff.1 hB0.out).1
           have hB1 := (hg1.block W.heap.size hl1 (by simp; omega)).trans hB0.out
           replace hl1 := hid hl1
           have k10 : w1.cell? ⟨W.heap.size, 0, none⟩ = some (.string ⟨#[]⟩) := by simp [World.cell?, hB1]
           have k11 : w1.cell? ⟨W.heap.size, 1, none⟩ = some (.slice none 0 0) := by simp [World.cell?, hB1]
           have k12 : w1.cell? ⟨W.heap.size, 2, none⟩ = some (.slice none 0 0) := by simp [World.cell?, hB1]
           have k13 : w1.cell? ⟨W.heap.size, 3, none⟩ = some (.slice none 0 0) := by simp [World.cell?, hB1]
           have kf1 : ∀ i, w1.frozen? ⟨W.heap.size, i, none⟩ = false := fun i => by simp [World.frozen?, hB1]
           have hp1 := hid hg1
           replace h1 := hid h1
           replace hg1 := hid (grown_trans (hg0.out) hg1)
           replace hB1 := hid (blk_set (i := 0) (v := .string ⟨t.toArray⟩) hB1))
        | (go_at_call 50; refine (H2.out _ (h1.out.far (by omega))).mono ?_; clear H2; rintro en w2 ⟨ao, no, co, rfl, h2, hg2, hq2, hd2⟩
           have hl2 := (Array.getElem?_eq_some_iff.1 hB1.out).1
           have hB2 := (hg2.block W.heap.size hl2 (by simp; omega)).trans hB1.out
           replace hl2 := hid hl2
           have k20 : w2.cell? ⟨W.heap.size, 0, none⟩ = some (.string ⟨t.toArray⟩) := by simp [World.cell?, hB2]
           have k21 : w2.cell? ⟨W.heap.size, 1, none⟩ = some (.slice none 0 0) := by simp [World.cell?, hB2]
           have k22 : w2.cell? ⟨W.heap.size, 2, none⟩ = some (.slice none 0 0) := by simp [World.cell?, hB2]
           have k23 : w2.cell? ⟨W.heap.size, 3, none⟩ = some (.slice none 0 0) := by simp [World.cell?, hB2]
           have kf2 : ∀ i, w2.frozen? ⟨W.heap.size, i, none⟩ = false := fun i => by simp [World.frozen?, hB2]
           have hp2 := hid hg2
           replace h2 := hid h2
           replace hg2 := hid (grown_trans ((grown_newc hg1.out (Nat.le_refl _))) hg2)
           replace hB2 := hid (blk_set (i := 1) (v := .slice ao no co) hB2)
           replace hd2 := hid hd2)
        | (go_at_call 52; refine (H3.out _ (h2.out.far (by omega))).mono ?_; clear H3; rintro en w3 ⟨ah, nh, ch, rfl, h3, hg3, hq3, hd3⟩
           have hl3 := (Array.getElem?_eq_some_iff.1 hB2.out).1
           have hB3 := (hg3.block W.heap.size hl3 (by simp; omega)).trans hB2.out
           replace hl3 := hid hl3
           have k30 : w3.cell? ⟨W.heap.size, 0, none⟩ = some (.string ⟨t.toArray⟩) := by simp [World.cell?, hB3]
           have k31 : w3.cell? ⟨W.heap.size, 1, none⟩ = some (.slice ao no co) := by simp [World.cell?, hB3]
           have k32 : w3.cell? ⟨W.heap.size, 2, none⟩ = some (.slice none 0 0) := by simp [World.cell?, hB3]
           have k33 : w3.cell? ⟨W.heap.size, 3, none⟩ = some (.slice none 0 0) := by simp [World.cell?, hB3]
           have kf3 : ∀ i, w3.frozen? ⟨W.heap.size, i, none⟩ = false := fun i => by simp [World.frozen?, hB3]
           have hp3 := hid hg3
           replace h3 := hid h3
           replace hg3 := hid (grown_trans ((grown_newc hg2.out (Nat.le_refl _))) hg3)
           replace hB3 := hid (blk_set (i := 2) (v := .slice ah nh ch) hB3)
           replace hd3 := hid hd3)
        | go_in)
  refine cod_fin (t := t) (ao := ao) (no := no) (co := co) (ah := ah) (nh := nh) (ch := ch) (af := none) (nf := 0) (cf := 0) (oB := W.heap.size) (ev := .iface 78 (.agg #[.int .i64 (r.fk : Nat), .int .i64 (r.fa : Nat)])) rfl rfl rfl ?_ (by rw [hq, errV_no hr]) (grown_newc (grown_newc (grown_newc (grown_newc (grown_newc hg3.out (Nat.le_refl _)) (Nat.le_refl _)) (Nat.le_refl _)) (Nat.le_refl _)) (Nat.le_refl _)) (fun h => absurd (hq ▸ h) hr)
  exact (blk_set (blk_set (blk_set (blk_set hB3.out))))
set_option maxRecDepth 100000 in
set_option maxHeartbeats 8000000 in
theorem code_leaf4 (W : World) (b : Nat) (s : List UInt8) (hs : s.length ≤ 4000000) (hbl : b < W.heap.size) (t : List UInt8) (p1 p2 p3 : Nat) (Lo : List Cd.Op) (Lh : List Cd.Han) (r : Cd.Rd) (hr : r.fk ≠ 0) (q : Cd.Code × Cd.Rd) (hq : q.2 = r) (HH : Hid (Calls Tryz.prog 48 #[.pointer (some ⟨b, 0, none⟩)] (W.alloc (.cells #[.string ⟨#[]⟩, .slice none 0 0, .slice none 0 0, .slice none 0 0] 38)) (fun e w' => e = .returned .nilIface ∧ (∃ p, p ≤ s.length ∧ PM w' b s p ∧ (True → p = 3)) ∧ (W.alloc (.cells #[.string ⟨#[]⟩, .slice none 0 0, .slice none 0 0, .slice none 0 0] 38)).grownBy w' (some b)))) (H1 : Hid (∀ V : World, PM V b s 3 → Calls Tryz.prog 49 #[.pointer (some ⟨b, 0, none⟩), .int .i64 2, .int .i64 65535] V (fun e w' => e = .returned (.tuple #[.string ⟨t.toArray⟩, .nilIface]) ∧ PM w' b s p1 ∧ V.grownBy w' (some b)))) (H2 : Hid (∀ V : World, PM V b s p1 → Calls Tryz.prog 50 #[.pointer (some ⟨b, 0, none⟩), .int .i64 1, .func (.func 51) #[.pointer (some ⟨b, 0, none⟩)] #[]] V (fun e w' => ∃ a n c, e = .returned (.tuple #[.slice a n c, .nilIface]) ∧ PM w' b s p2 ∧ V.grownBy w' (some b) ∧ True ∧ (∃ D, LsM ROp 2 w' D (.slice a n c) Lo ∧ ∀ k, D k → V.heap.size ≤ k ∧ k < w'.heap.size ∧ k ≠ b)))) (H3 : Hid (∀ V : World, PM V b s p2 → Calls Tryz.prog 52 #[.pointer (some ⟨b, 0, none⟩), .int .i64 2, .func (.func 53) #[.pointer (some ⟨b, 0, none⟩)] #[]] V (fun e w' => ∃ a n c, e = .returned (.tuple #[.slice a n c, .nilIface]) ∧ PM w' b s p3 ∧ V.grownBy w' (some b) ∧ True ∧ (∃ D, LsM RHan 2 w' D (.slice a n c) Lh ∧ ∀ k, D k → V.heap.size ≤ k ∧ k < w'.heap.size ∧ k ≠ b)))) (H4 : Hid (∀ V : World, PM V b s p3 → Calls Tryz.prog 54 #[.pointer (some ⟨b, 0, none⟩), .int .i64 2, .func (.func 55) #[.pointer (some ⟨b, 0, none⟩)] #[]] V (fun e w' => ∃ a n c, e = .returned (.tuple #[.slice a n c, (.iface 78 (.agg #[.int .i64 (r.fk : Nat), .int .i64 (r.fa : Nat)]))]) ∧ PM w' b s r.pos ∧ V.grownBy w' (some b) ∧ True ∧ (True)))) :
    Calls Tryz.prog 21 #[.pointer (some ⟨b, 0, none⟩)] W (CdPost b s W q) := by
  have hB00 : (W.alloc (.cells #[.string ⟨#[]⟩, .slice none 0 0, .slice none 0 0, .slice none 0 0] 38)).heap[W.heap.size]? = some (.cells #[.string ⟨([] : List UInt8).toArray⟩, .slice none 0 0, .slice none 0 0, .slice none 0 0] 38 (0, 0)) := World.alloc_heap_new W _
  have hd0 : ∀ {V : World} {p : Nat}, (PM V b s p ∧ (True → p = 3)) → PM V b s 3 := fun h => by obtain ⟨h1, h2⟩ := h; obtain rfl := h2 trivial; exact h1
  go_enter Tryz.func21, Tryz.ntmps21
  go_wp2_with (first
        | (go_at_call 48; refine HH.out.mono ?_; clear HH; rintro en w0 ⟨rfl, ⟨p0, hp0, h0, hz0⟩, hg0⟩
           have hB0 := (hg0.block W.heap.size (by simp) (by simp; omega)).trans hB00
           have k00 : w0.cell? ⟨W.heap.size, 0, none⟩ = some (.string ⟨#[]⟩) := by simp [World.cell?, hB0]
           have k01 : w0.cell? ⟨W.heap.size, 1, none⟩ = some (.slice none 0 0) := by simp [World.cell?, hB0]
           have k02 : w0.cell? ⟨W.heap.size, 2, none⟩ = some (.slice none 0 0) := by simp [World.cell?, hB0]
           have k03 : w0.cell? ⟨W.heap.size, 3, none⟩ = some (.slice none 0 0) := by simp [World.cell?, hB0]
           have kf0 : ∀ i, w0.frozen? ⟨W.heap.size, i, none⟩ = false := fun i => by simp [World.frozen?, hB0]
           replace hg0 := hid (grown_trans (grown_alloc (grown_refl W (some b)) _) hg0)
           replace hB0 := hid hB0
           have h0' := hid (And.intro h0 hz0)
           clear h0 hz0)
        | (go_at_call 49; refine (H1.out _ (hd0 h0'.out)).mono ?_; clear H1; rintro en w1 ⟨rfl, h1, hg1⟩
           have hl1 := (Array.getElem?_eq_some_iff.1 hB0.out).1
           have hB1 := (hg1.block W.heap.size hl1 (by simp; omega)).trans hB0.out
           replace hl1 := hid hl1
           have k10 : w1.cell? ⟨W.heap.size, 0, none⟩ = some (.string ⟨#[]⟩) := by simp [World.cell?, hB1]
           have k11 : w1.cell? ⟨W.heap.size, 1, none⟩ = some (.slice none 0 0) := by simp [World.cell?, hB1]
           have k12 : w1.cell? ⟨W.heap.size, 2, none⟩ = some (.slice none 0 0) := by simp [World.cell?, hB1]
           have k13 : w1.cell? ⟨W.heap.size, 3, none⟩ = some (.slice none 0 0) := by simp [World.cell?, hB1]
           have kf1 : ∀ i, w1.frozen? ⟨W.heap.size, i, none⟩ = false := fun i => by simp [World.frozen?, hB1]
           have hp1 := hid hg1
           replace h1 := hid h1
           replace hg1 := hid (grown_trans (hg0.out) hg1)
           replace hB1 := hid (blk_set (i := 0) (v := .string ⟨t.toArray⟩) hB1))
        | (go_at_call 50; refine (H2.out _ (h1.out.far (by omega))).mono ?_; clear H2; rintro en w2 ⟨ao, no, co, rfl, h2, hg2, hq2, hd2⟩
           have hl2 := (Array.getElem?_eq_some_iff.1 hB1.out).1
           have hB2 := (hg2.block W.heap.size hl2 (by simp; omega)).trans hB1.out
           replace hl2 := hid hl2
           have k20 : w2.cell? ⟨W.heap.size, 0, none⟩ = some (.string ⟨t.toArray⟩) := by simp [World.cell?, hB2]
           have k21 : w2.cell? ⟨W.heap.size, 1, none⟩ = some (.slice none 0 0) := by simp [World.cell?, hB2]
           have k22 : w2.cell? ⟨W.heap.size, 2, none⟩ = some (.slice none 0 0) := by simp [World.cell?, hB2]
           have k23 : w2.cell? ⟨W.heap.size, 3, none⟩ = some (.slice none 0 0) := by simp [World.cell?, hB2]
           have kf2 : ∀ i, w2.frozen? ⟨W.heap.size, i, none⟩ = false := fun i => by simp [World.frozen?, hB2]
           have hp2 := hid hg2
           replace h2 := hid h2
           replace hg2 := hid (grown_trans ((grown_newc hg1.out (Nat.le_refl _))) hg2)
           replace hB2 := hid (blk_set (i := 1) (v := .slice ao no co) hB2)
           replace hd2 := hid hd2)
        | (go_at_call 52; refine (H3.out _ (h2.out.far (by omega))).mono ?_; clear H3; rintro en w3 ⟨ah, nh, ch, rfl, h3, hg3, hq3, hd3⟩
           have hl3 := (Array.getElem?_eq_some_iff.1 hB2.out).1
           have hB3 := (hg3.block W.heap.size hl3 (by simp; omega)).trans hB2.out
           replace hl3 := hid hl3
           have k30 : w3.cell? ⟨W.heap.size, 0, none⟩ = some (.string ⟨t.toArray⟩) := by simp [World.cell?, hB3]
           have k31 : w3.cell? ⟨W.heap.size, 1, none⟩ = some (.slice ao no co) := by simp [World.cell?, hB3]
           have k32 : w3.cell? ⟨W.heap.size, 2, none⟩ = some (.slice none 0 0) := by simp [World.cell?, hB3]
           have k33 : w3.cell? ⟨W.heap.size, 3, none⟩ = some (.slice none 0 0) := by simp [World.cell?, hB3]
           have kf3 : ∀ i, w3.frozen? ⟨W.heap.size, i, none⟩ = false := fun i => by simp [World.frozen?, hB3]
           have hp3 := hid hg3
           replace h3 := hid h3
           replace hg3 := hid (grown_trans ((grown_newc hg2.out (Nat.le_refl _))) hg3)
           replace hB3 := hid (blk_set (i := 2) (v := .slice ah nh ch) hB3)
           replace hd3 := hid hd3)
        | (go_at_call 54; refine (H4.out _ (h3.out.far (by omega))).mono ?_; clear H4; rintro en w4 ⟨af, nf, cf, rfl, h4, hg4, hq4, hd4⟩
           have hl4 := (Array.getElem?_eq_some_iff.1 hB3.out).1
           have hB4 := (hg4.block W.heap.size hl4 (by simp; omega)).trans hB3.out
           replace hl4 := hid hl4
           have k40 : w4.cell? ⟨W.heap.size, 0, none⟩ = some (.string ⟨t.toArray⟩) := by simp [World.cell?, hB4]
           have k41 : w4.cell? ⟨W.heap.size, 1, none⟩ = some (.slice ao no co) := by simp [World.cell?, hB4]
           have k42 : w4.cell? ⟨W.heap.size, 2, none⟩ = some (.slice ah nh ch) := by simp [World.cell?, hB4]
           have k43 : w4.cell? ⟨W.heap.size, 3, none⟩ = some (.slice none 0 0) := by simp [World.cell?, hB4]
           have kf4 : ∀ i, w4.frozen? ⟨W.heap.size, i, none⟩ = false := fun i => by simp [World.frozen?, hB4]
           have hp4 := hid hg4
           replace h4 := hid h4
           replace hg4 := hid (grown_trans ((grown_newc hg3.out (Nat.le_refl _))) hg4)
           replace hB4 := hid (blk_set (i := 3) (v := .slice af nf cf) hB4)
           replace hd4 := hid hd4)
        | go_in)
  refine cod_fin (t := t) (ao := ao) (no := no) (co := co) (ah := ah) (nh := nh) (ch := ch) (af := af) (nf := nf) (cf := cf) (oB := W.heap.size) (ev := .iface 78 (.agg #[.int .i64 (r.fk : Nat), .int .i64 (r.fa : Nat)])) rfl rfl rfl ?_ (by rw [hq, errV_no hr]) (grown_newc (grown_newc (grown_newc (grown_newc (grown_newc hg4.out (Nat.le_refl _)) (Nat.le_refl _)) (Nat.le_refl _)) (Nat.le_refl _)) (Nat.le_refl _)) (fun h => absurd (hq ▸ h) hr)
  exact (blk_set (blk_set (blk_set (blk_set hB4.out))))
set_option maxRecDepth 100000 in
set_option maxHeartbeats 8000000 in
theorem code_leaf5 (W : World) (b : Nat) (s : List UInt8) (hs : s.length ≤ 4000000) (hbl : b < W.heap.size) (t : List UInt8) (p1 p2 p3 p4 : Nat) (Lo : List Cd.Op) (Lh : List Cd.Han) (Lf : List Cd.Fun)  (q : Cd.Code × Cd.Rd)  (HH : Hid (Calls Tryz.prog 48 #[.pointer (some ⟨b, 0, none⟩)] (W.alloc (.cells #[.string ⟨#[]⟩, .slice none 0 0, .slice none 0 0, .slice none 0 0] 38)) (fun e w' => e = .returned .nilIface ∧ (∃ p, p ≤ s.length ∧ PM w' b s p ∧ (True → p = 3)) ∧ (W.alloc (.cells #[.string ⟨#[]⟩, .slice none 0 0, .slice none 0 0, .slice none 0 0] 38)).grownBy w' (some b)))) (H1 : Hid (∀ V : World, PM V b s 3 → Calls Tryz.prog 49 #[.pointer (some ⟨b, 0, none⟩), .int .i64 2, .int .i64 65535] V (fun e w' => e = .returned (.tuple #[.string ⟨t.toArray⟩, .nilIface]) ∧ PM w' b s p1 ∧ V.grownBy w' (some b)))) (H2 : Hid (∀ V : World, PM V b s p1 → Calls Tryz.prog 50 #[.pointer (some ⟨b, 0, none⟩), .int .i64 1, .func (.func 51) #[.pointer (some ⟨b, 0, none⟩)] #[]] V (fun e w' => ∃ a n c, e = .returned (.tuple #[.slice a n c, .nilIface]) ∧ PM w' b s p2 ∧ V.grownBy w' (some b) ∧ True ∧ (∃ D, LsM ROp 2 w' D (.slice a n c) Lo ∧ ∀ k, D k → V.heap.size ≤ k ∧ k < w'.heap.size ∧ k ≠ b)))) (H3 : Hid (∀ V : World, PM V b s p2 → Calls Tryz.prog 52 #[.pointer (some ⟨b, 0, none⟩), .int .i64 2, .func (.func 53) #[.pointer (some ⟨b, 0, none⟩)] #[]] V (fun e w' => ∃ a n c, e = .returned (.tuple #[.slice a n c, .nilIface]) ∧ PM w' b s p3 ∧ V.grownBy w' (some b) ∧ True ∧ (∃ D, LsM RHan 2 w' D (.slice a n c) Lh ∧ ∀ k, D k → V.heap.size ≤ k ∧ k < w'.heap.size ∧ k ≠ b)))) (H4 : Hid (∀ V : World, PM V b s p3 → Calls Tryz.prog 54 #[.pointer (some ⟨b, 0, none⟩), .int .i64 2, .func (.func 55) #[.pointer (some ⟨b, 0, none⟩)] #[]] V (fun e w' => ∃ a n c, e = .returned (.tuple #[.slice a n c, .nilIface]) ∧ PM w' b s p4 ∧ V.grownBy w' (some b) ∧ True ∧ (∃ D, LsM RFun 3 w' D (.slice a n c) Lf ∧ ∀ k, D k → V.heap.size ≤ k ∧ k < w'.heap.size ∧ k ≠ b)))) (HE : Hid (∀ V : World, PM V b s p4 → Calls Tryz.prog 56 #[.pointer (some ⟨b, 0, none⟩)] V (fun e w' => e = .returned (errV q.2) ∧ ∃ n, w' = V.drewN n))) (hq : q.1 = ⟨t, Lo, Lh, Lf⟩) :
    Calls Tryz.prog 21 #[.pointer (some ⟨b, 0, none⟩)] W (CdPost b s W q) := by
  have hB00 : (W.alloc (.cells #[.string ⟨#[]⟩, .slice none 0 0, .slice none 0 0, .slice none 0 0] 38)).heap[W.heap.size]? = some (.cells #[.string ⟨([] : List UInt8).toArray⟩, .slice none 0 0, .slice none 0 0, .slice none 0 0] 38 (0, 0)) := World.alloc_heap_new W _
  have hd0 : ∀ {V : World} {p : Nat}, (PM V b s p ∧ (True → p = 3)) → PM V b s 3 := fun h => by obtain ⟨h1, h2⟩ := h; obtain rfl := h2 trivial; exact h1
  go_enter Tryz.func21, Tryz.ntmps21
  go_wp2_with (first
        | (go_at_call 48; refine HH.out.mono ?_; clear HH; rintro en w0 ⟨rfl, ⟨p0, hp0, h0, hz0⟩, hg0⟩
           have hB0 := (hg0.block W.heap.size (by simp) (by simp; omega)).trans hB00
           have k00 : w0.cell? ⟨W.heap.size, 0, none⟩ = some (.string ⟨#[]⟩) := by simp [World.cell?, hB0]
           have k01 : w0.cell? ⟨W.heap.size, 1, none⟩ = some (.slice none 0 0) := by simp [World.cell?, hB0]
           have k02 : w0.cell? ⟨W.heap.size, 2, none⟩ = some (.slice none 0 0) := by simp [World.cell?, hB0]
           have k03 : w0.cell? ⟨W.heap.size, 3, none⟩ = some (.slice none 0 0) := by simp [World.cell?, hB0]
           have kf0 : ∀ i, w0.frozen? ⟨W.heap.size, i, none⟩ = false := fun i => by simp [World.frozen?, hB0]
           replace hg0 := hid (grown_trans (grown_alloc (grown_refl W (some b)) _) hg0)
           replace hB0 := hid hB0
           have h0' := hid (And.intro h0 hz0)
           clear h0 hz0)
        | (go_at_call 49; refine (H1.out _ (hd0 h0'.out)).mono ?_; clear H1; rintro en w1 ⟨rfl, h1, hg1⟩
           have hl1 := (Array.getElem?_eq_some_iff.1 hB0.out).1
           have hB1 := (hg1.block W.heap.size hl1 (by simp; omega)).trans hB0.out
           replace hl1 := hid hl1
           have k10 : w1.cell? ⟨W.heap.size, 0, none⟩ = some (.string ⟨#[]⟩) := by simp [World.cell?, hB1]
           have k11 : w1.cell? ⟨W.heap.size, 1, none⟩ = some (.slice none 0 0) := by simp [World.cell?, hB1]
           have k12 : w1.cell? ⟨W.heap.size, 2, none⟩ = some (.slice none 0 0) := by simp [World.cell?, hB1]
           have k13 : w1.cell? ⟨W.heap.size, 3, none⟩ = some (.slice none 0 0) := by simp [World.cell?, hB1]
           have kf1 : ∀ i, w1.frozen? ⟨W.heap.size, i, none⟩ = false := fun i => by simp [World.frozen?, hB1]
           have hp1 := hid hg1
           replace h1 := hid h1
           replace hg1 := hid (grown_trans (hg0.out) hg1)
           replace hB1 := hid (blk_set (i := 0) (v := .string ⟨t.toArray⟩) hB1))
        | (go_at_call 50; refine (H2.out _ (h1.out.far (by omega))).mono ?_; clear H2; rintro en w2 ⟨ao, no, co, rfl, h2, hg2, hq2, hd2⟩
           have hl2 := (Array.getElem?_eq_some_iff.1 hB1.out).1
           have hB2 := (hg2.block W.heap.size hl2 (by simp; omega)).trans hB1.out
           replace hl2 := hid hl2
           have k20 : w2.cell? ⟨W.heap.size, 0, none⟩ = some (.string ⟨t.toArray⟩) := by simp [World.cell?, hB2]
           have k21 : w2.cell? ⟨W.heap.size, 1, none⟩ = some (.slice none 0 0) := by simp [World.cell?, hB2]
           have k22 : w2.cell? ⟨W.heap.size, 2, none⟩ = some (.slice none 0 0) := by simp [World.cell?, hB2]
           have k23 : w2.cell? ⟨W.heap.size, 3, none⟩ = some (.slice none 0 0) := by simp [World.cell?, hB2]
           have kf2 : ∀ i, w2.frozen? ⟨W.heap.size, i, none⟩ = false := fun i => by simp [World.frozen?, hB2]
           have hp2 := hid hg2
           replace h2 := hid h2
           replace hg2 := hid (grown_trans ((grown_newc hg1.out (Nat.le_refl _))) hg2)
           replace hB2 := hid (blk_set (i := 1) (v := .slice ao no co) hB2)
           replace hd2 := hid hd2)
        | (go_at_call 52; refine (H3.out _ (h2.out.far (by omega))).mono ?_; clear H3; rintro en w3 ⟨ah, nh, ch, rfl, h3, hg3, hq3, hd3⟩
           have hl3 := (Array.getElem?_eq_some_iff.1 hB2.out).1
           have hB3 := (hg3.block W.heap.size hl3 (by simp; omega)).trans hB2.out
           replace hl3 := hid hl3
           have k30 : w3.cell? ⟨W.heap.size, 0, none⟩ = some (.string ⟨t.toArray⟩) := by simp [World.cell?, hB3]
           have k31 : w3.cell? ⟨W.heap.size, 1, none⟩ = some (.slice ao no co) := by simp [World.cell?, hB3]
           have k32 : w3.cell? ⟨W.heap.size, 2, none⟩ = some (.slice none 0 0) := by simp [World.cell?, hB3]
           have k33 : w3.cell? ⟨W.heap.size, 3, none⟩ = some (.slice none 0 0) := by simp [World.cell?, hB3]
           have kf3 : ∀ i, w3.frozen? ⟨W.heap.size, i, none⟩ = false := fun i => by simp [World.frozen?, hB3]
           have hp3 := hid hg3
           replace h3 := hid h3
           replace hg3 := hid (grown_trans ((grown_newc hg2.out (Nat.le_refl _))) hg3)
           replace hB3 := hid (blk_set (i := 2) (v := .slice ah nh ch) hB3)
           replace hd3 := hid hd3)
        | (go_at_call 54; refine (H4.out _ (h3.out.far (by omega))).mono ?_; clear H4; rintro en w4 ⟨af, nf, cf, rfl, h4, hg4, hq4, hd4⟩
           have hl4 := (Array.getElem?_eq_some_iff.1 hB3.out).1
           have hB4 := (hg4.block W.heap.size hl4 (by simp; omega)).trans hB3.out
           replace hl4 := hid hl4
           have k40 : w4.cell? ⟨W.heap.size, 0, none⟩ = some (.string ⟨t.toArray⟩) := by simp [World.cell?, hB4]
           have k41 : w4.cell? ⟨W.heap.size, 1, none⟩ = some (.slice ao no co) := by simp [World.cell?, hB4]
           have k42 : w4.cell? ⟨W.heap.size, 2, none⟩ = some (.slice ah nh ch) := by simp [World.cell?, hB4]
           have k43 : w4.cell? ⟨W.heap.size, 3, none⟩ = some (.slice none 0 0) := by simp [World.cell?, hB4]
           have kf4 : ∀ i, w4.frozen? ⟨W.heap.size, i, none⟩ = false := fun i => by simp [World.frozen?, hB4]
           have hp4 := hid hg4
           replace h4 := hid h4
           replace hg4 := hid (grown_trans ((grown_newc hg3.out (Nat.le_refl _))) hg4)
           replace hB4 := hid (blk_set (i := 3) (v := .slice af nf cf) hB4)
           replace hd4 := hid hd4)
        | go_in)
  have hB5 := hB4.out
  have hP5 : PM (w4.setCell ⟨W.heap.size, 3, none⟩ (.slice af nf cf)) b s p4 := h4.out.far (by omega)
  have hg5 := grown_newc (i := 3) (v := .slice af nf cf) hg4.out (Nat.le_refl _)
  have hs5 : ∀ j, j ≠ W.heap.size → (w4.setCell ⟨W.heap.size, 3, none⟩ (.slice af nf cf)).heap[j]? = w4.heap[j]? := fun j hj => Below.heap_setCell w4 _ _ j (by dsimp only; omega)
  clear k40 k41 k42 k43 kf4
  generalize w4.setCell ⟨W.heap.size, 3, none⟩ (.slice af nf cf) = w5 at hB5 hP5 hg5 hs5 ⊢
  have k50 : w5.cell? ⟨W.heap.size, 0, none⟩ = some (.string ⟨t.toArray⟩) := by simp [World.cell?, hB5]
  have k51 : w5.cell? ⟨W.heap.size, 1, none⟩ = some (.slice ao no co) := by simp [World.cell?, hB5]
  have k52 : w5.cell? ⟨W.heap.size, 2, none⟩ = some (.slice ah nh ch) := by simp [World.cell?, hB5]
  have k53 : w5.cell? ⟨W.heap.size, 3, none⟩ = some (.slice af nf cf) := by simp [World.cell?, hB5]
  have kf5 : ∀ i, w5.frozen? ⟨W.heap.size, i, none⟩ = false := fun i => by simp [World.frozen?, hB5]
  replace hB5 := hid hB5
  replace hP5 := hid hP5
  replace hg5 := hid hg5
  replace hs5 := hid hs5
  generalize hev : errV q.2 = ev at HE
  replace hev := hid hev
  refine wp_region_held_drew (S := (fun w' => w'.cell? ⟨W.heap.size, 0, none⟩ = some (.string ⟨t.toArray⟩) ∧ w'.cell? ⟨W.heap.size, 1, none⟩ = some (.slice ao no co) ∧ w'.cell? ⟨W.heap.size, 2, none⟩ = some (.slice ah nh ch) ∧ w'.cell? ⟨W.heap.size, 3, none⟩ = some (.slice af nf cf))) (by kernel_rfl) (by first | trivial | ((try dsimp only); go_keep)) (fun hHeld => ?_)
  refine wpAnyH_take (i := 0) (v := ?vve1) rfl (by kernel_rfl) (by kernel_rfl) (by kernel_rfl) (fun _ _ _ h => h) (Or.inl ⟨by rfl, ?yye1⟩) (by assumption) ?rre1
  case yye1 => (intro w' hSw; (try dsimp only at hSw); go_simp; (try with_reducible rfl))
  try simp only [Act.put, List.setIfInBounds_toArray, List.set_cons_zero, List.set_cons_succ]
  refine wpAnyH_take (i := 1) (v := ?vve2) rfl (by kernel_rfl) (by kernel_rfl) (by kernel_rfl) (fun _ _ _ h => h) (Or.inl ⟨by rfl, ?yye2⟩) (by assumption) ?rre2
  case yye2 => (intro w' hSw; (try dsimp only at hSw); go_simp; (try with_reducible rfl))
  try simp only [Act.put, List.setIfInBounds_toArray, List.set_cons_zero, List.set_cons_succ]
  refine wpAnyH_ready (rs := [2]) (by kernel_rfl) (by simp) (AllReadyH.cons rfl (fun K hK => ?_) AllReadyH.nil)
  go_simp
  go_at_call 56
  have hP6 : PM w5.drew b s p4 := hP5.out
  refine (HE.out w5.drew hP6).mono ?_
  clear hP6 HE
  rintro en w9 ⟨rfl, n9, hw9⟩
  have hB6 : w9.heap[W.heap.size]? = some (.cells #[.string ⟨t.toArray⟩, .slice ao no co, .slice ah nh ch, .slice af nf cf] 38 (0, 0)) := by rw [hw9]; exact hB5.out
  have hg6 : W.grownBy w9 (some b) := by rw [hw9]; exact grown_drewN (grown_drewN (n := 1) hg5.out)
  have hs6 : ∀ j, j ≠ W.heap.size → w9.heap[j]? = w4.heap[j]? := by rw [hw9]; exact hs5.out
  clear hw9 k50 k51 k52 k53 kf5
  have k60 : w9.cell? ⟨W.heap.size, 0, none⟩ = some (.string ⟨t.toArray⟩) := by simp [World.cell?, hB6]
  have k61 : w9.cell? ⟨W.heap.size, 1, none⟩ = some (.slice ao no co) := by simp [World.cell?, hB6]
  have k62 : w9.cell? ⟨W.heap.size, 2, none⟩ = some (.slice ah nh ch) := by simp [World.cell?, hB6]
  have k63 : w9.cell? ⟨W.heap.size, 3, none⟩ = some (.slice af nf cf) := by simp [World.cell?, hB6]
  have kf6 : ∀ i, w9.frozen? ⟨W.heap.size, i, none⟩ = false := fun i => by simp [World.frozen?, hB6]
  have hS6 : w9.cell? ⟨W.heap.size, 0, none⟩ = some (.string ⟨t.toArray⟩) ∧ w9.cell? ⟨W.heap.size, 1, none⟩ = some (.slice ao no co) ∧ w9.cell? ⟨W.heap.size, 2, none⟩ = some (.slice ah nh ch) ∧ w9.cell? ⟨W.heap.size, 3, none⟩ = some (.slice af nf cf) := ⟨k60, k61, k62, k63⟩
  replace hB6 := hid hB6
  replace hg6 := hid hg6
  replace hs6 := hid hs6
  dsimp only
  clear hHeld
  refine hK.out _ _ ?hs (fun hHeld => ?_)
  case hs => (first | trivial | ((try dsimp only); go_keep) | ((try dsimp only); simp [*, World.cell?_alloc_some, World.cell?_setCell_far, World.cell?_setCell_other]))
  clear hK K
  try simp only [Act.put, List.setIfInBounds_toArray, List.set_cons_zero, List.set_cons_succ]
  refine wpAnyH_ready (rs := [3]) (by kernel_rfl) (by simp) (AllReadyH.cons rfl (fun K hK => ?_) AllReadyH.nil)
  go_simp
  clear hS6
  have hB7 := blk_set (i := 3) (v := .slice af nf cf) (blk_set (i := 2) (v := .slice ah nh ch) (blk_set (i := 1) (v := .slice ao no co) (blk_set (i := 0) (v := .string ⟨t.toArray⟩) hB6.out)))
  have hg7 := grown_newc (i := 3) (v := .slice af nf cf) (grown_newc (i := 2) (v := .slice ah nh ch) (grown_newc (i := 1) (v := .slice ao no co) (grown_newc (i := 0) (v := .string ⟨t.toArray⟩) hg6.out (Nat.le_refl _)) (Nat.le_refl _)) (Nat.le_refl _)) (Nat.le_refl _)
  have hs7 : ∀ j, j ≠ W.heap.size → ((((w9.setCell ⟨W.heap.size, 0, none⟩ (.string ⟨t.toArray⟩)).setCell ⟨W.heap.size, 1, none⟩ (.slice ao no co)).setCell ⟨W.heap.size, 2, none⟩ (.slice ah nh ch)).setCell ⟨W.heap.size, 3, none⟩ (.slice af nf cf)).heap[j]? = w4.heap[j]? := fun j hj => (set_same4 hj).trans (hs6.out j hj)
  generalize (((w9.setCell ⟨W.heap.size, 0, none⟩ (.string ⟨t.toArray⟩)).setCell ⟨W.heap.size, 1, none⟩ (.slice ao no co)).setCell ⟨W.heap.size, 2, none⟩ (.slice ah nh ch)).setCell ⟨W.heap.size, 3, none⟩ (.slice af nf cf) = w10 at hB7 hg7 hs7 ⊢
  clear k60 k61 k62 k63 kf6
  have k70 : w10.cell? ⟨W.heap.size, 0, none⟩ = some (.string ⟨t.toArray⟩) := by simp [World.cell?, hB7]
  have k71 : w10.cell? ⟨W.heap.size, 1, none⟩ = some (.slice ao no co) := by simp [World.cell?, hB7]
  have k72 : w10.cell? ⟨W.heap.size, 2, none⟩ = some (.slice ah nh ch) := by simp [World.cell?, hB7]
  have k73 : w10.cell? ⟨W.heap.size, 3, none⟩ = some (.slice af nf cf) := by simp [World.cell?, hB7]
  have kf7 : ∀ i, w10.frozen? ⟨W.heap.size, i, none⟩ = false := fun i => by simp [World.frozen?, hB7]
  have hS7 : w10.cell? ⟨W.heap.size, 0, none⟩ = some (.string ⟨t.toArray⟩) ∧ w10.cell? ⟨W.heap.size, 1, none⟩ = some (.slice ao no co) ∧ w10.cell? ⟨W.heap.size, 2, none⟩ = some (.slice ah nh ch) ∧ w10.cell? ⟨W.heap.size, 3, none⟩ = some (.slice af nf cf) := ⟨k70, k71, k72, k73⟩
  replace hB7 := hid hB7
  replace hg7 := hid hg7
  replace hs7 := hid hs7
  clear hHeld
  refine hK.out _ _ ?hs (fun hHeld => ?_)
  case hs => (first | trivial | ((try dsimp only); go_keep) | ((try dsimp only); simp [*, World.cell?_alloc_some, World.cell?_setCell_far, World.cell?_setCell_other]))
  clear hK K
  try simp only [Act.put, List.setIfInBounds_toArray, List.set_cons_zero, List.set_cons_succ]
  refine wpAnyH_ready (rs := [4]) (by kernel_rfl) (by simp) (AllReadyH.cons rfl (fun K hK => ?_) AllReadyH.nil)
  go_simp
  skip
  clear hHeld
  refine hK.out _ _ ?hs (fun hHeld => ?_)
  case hs => (first | trivial | ((try dsimp only); go_keep) | ((try dsimp only); simp [*, World.cell?_alloc_some, World.cell?_setCell_far, World.cell?_setCell_other]))
  clear hK K
  try simp only [Act.put, List.setIfInBounds_toArray, List.set_cons_zero, List.set_cons_succ]
  refine wpAnyH_done (by kernel_rfl) ?_ _
  clear hHeld
  go_wp2
  refine cod_fin (t := t) (ao := ao) (no := no) (co := co) (ah := ah) (nh := nh) (ch := ch) (af := af) (nf := nf) (cf := cf) (oB := W.heap.size) (ev := ev) rfl rfl rfl hB7.out hev.out hg7.out (fun _ => ?_)
  rw [hq]
  refine ⟨rfl, fun wz hz => ?_⟩
  obtain ⟨D2, x2, y2⟩ := hd2.out
  obtain ⟨D3, x3, y3⟩ := hd3.out
  obtain ⟨D4, x4, y4⟩ := hd4.out
  have l2 := hl2.out
  have l3 := hl3.out
  have l4 := hl4.out
  have z3 := hp3.out.size
  have z4 := hp4.out.size
  simp at l2 l3 l4 z3 z4
  refine ⟨(x2.keep (D' := D2) ROp.ok (fun k hk => ?_) (fun _ h => h)).ops, (x3.keep (D' := D3) RHan.ok (fun k hk => ?_) (fun _ h => h)).hans, (x4.keep (D' := D4) RFun.ok (fun k hk => ?_) (fun _ h => h)).funs⟩
  · obtain ⟨a1, a2, a3⟩ := y2 k hk
    simp at a1
    exact (hz k (by omega) (lt_same (hs7.out k (by omega)) (by omega))).trans <| (hs7.out k (by omega)).trans ((hop hp4.out (by omega) a3 (by omega)).trans (hop hp3.out (by omega) a3 (by omega)))
  · obtain ⟨a1, a2, a3⟩ := y3 k hk
    simp at a1
    exact (hz k (by omega) (lt_same (hs7.out k (by omega)) (by omega))).trans <| (hs7.out k (by omega)).trans (hop hp4.out (by omega) a3 (by omega))
  · obtain ⟨a1, a2, a3⟩ := y4 k hk
    simp at a1
    exact (hz k (by omega) (lt_same (hs7.out k (by omega)) (by omega))).trans (hs7.out k (by omega))
end Go.Proofs.YtpjbfdpblgjmfaaGreatDoor

namespace Go.Proofs.YtpjbfdpblgjmfaaGreatDoor
open Go.RowKit Go.Lib

theorem head_ok {s : List UInt8} (h : (Cd.Rd.head s 3 (Cd.Rd.at_ 3)).fk = 0) : Cd.Rd.head s 3 (Cd.Rd.at_ 3) = Cd.Rd.at_ 3 ∧ 3 ≤ s.length := by
  rcases s with _ | ⟨x, _ | ⟨y, _ | ⟨z, l⟩⟩⟩
  · simp [Cd.Rd.head, Cd.head, Cd.Rd.no, Cd.Rd.at_] at h
  · by_cases hx : x = 69 <;> simp [Cd.Rd.head, Cd.head, Cd.Rd.no, Cd.Rd.at_, hx] at h
  · by_cases hx : x = 69 <;> by_cases hy : y = 70 <;> simp [Cd.Rd.head, Cd.head, Cd.Rd.no, Cd.Rd.at_, hx, hy] at h
  · by_cases hx : x = 69 <;> by_cases hy : y = 70 <;> by_cases hz : z = 49 <;> simp [Cd.Rd.head, Cd.head, Cd.Rd.no, Cd.Rd.at_, hx, hy, hz] at h ⊢
theorem code_bad {s : List UInt8} {r : Cd.Rd} (h : r.fk ≠ 0) : (Cd.Rd.code s r).2 = r := by
  unfold Cd.Rd.code
  dsimp only
  rw [bad_num' h]
  dsimp only
  rw [bad_text h]
  dsimp only
  rw [ops_many, many_bad h]
  dsimp only
  rw [hans_many, many_bad h]
  dsimp only
  rw [funs_many, many_bad h]
  dsimp only
  rw [if_neg (fun hh => h hh.1)]

theorem calls_post {P : Program} {f : FuncId} {a : Array Value} {w : World} {R : Ending → World → Prop} (h : Calls P f a w R) : ∃ e w', R e w' := by
  obtain ⟨e, w', _, hr, _⟩ := h []
  exact ⟨e, w', hr⟩
set_option maxRecDepth 100000 in
set_option maxHeartbeats 8000000 in
theorem dcode_c (W : World) (b : Nat) (s : List UInt8) (h : PM W b s 0) (hs : s.length ≤ 4000000) :
    Calls Tryz.prog 21 #[.pointer (some ⟨b, 0, none⟩)] W (CdPost b s W (Cd.Rd.code s (Cd.Rd.head s 3 (Cd.Rd.at_ 3)))) := by
  have hbl := h.lt
  have HH := dhead_c (W.alloc (.cells #[.string ⟨#[]⟩, .slice none 0 0, .slice none 0 0, .slice none 0 0] 38)) b s (h.al _) hs
  unfold HdPost at HH
  have hok := head_ok (s := s)
  generalize Cd.Rd.head s 3 (Cd.Rd.at_ 3) = r0 at HH hok ⊢
  by_cases h0 : r0.fk = 0
  · obtain ⟨rfl, h3⟩ := hok h0
    rw [errV_ok h0] at HH
    have HH' := hid (HH.mono (fun e w' hh => (show e = .returned .nilIface ∧ (∃ p, p ≤ s.length ∧ PM w' b s p ∧ (True → p = 3)) ∧ (W.alloc (.cells #[.string ⟨#[]⟩, .slice none 0 0, .slice none 0 0, .slice none 0 0] 38)).grownBy w' (some b) from by
      obtain ⟨a1, ⟨p, a2, a3, a4⟩, a5⟩ := hh
      exact ⟨a1, ⟨p, a2, a3, fun _ => (a4 rfl).2⟩, a5⟩)))
    clear HH
    rw [code_eq]
    dsimp only
    have H1 := hid (fun (V : World) (hv : PM V b s 3) => dtext_c V b s 3 2 65535 hv hs h3 (by omega) (by omega))
    have hk1 := txt_fa s 2 65535 3
    have hl1 := txt_pos s 2 65535 3 h3
    generalize Cd.Rd.txt s 2 65535 (Cd.Rd.at_ 3) = t1 at H1 hk1 hl1 ⊢
    obtain ⟨t, r1⟩ := t1
    dsimp only at H1 hk1 hl1 ⊢
    unfold ptrV TkPost at H1
    by_cases g1 : r1.fk = 0
    · rw [errV_ok g1] at H1
      have e1 := (hk1 g1).symm
      have H2 := hid (fun (V : World) (hv : PM V b s r1.pos) => list_op V b s r1.pos 1 ROp (gOp s) ROp.ok hv hs hl1 (by omega) (fun V2 q2 h2 hq2 => operation_c V2 b s q2 h2 hs hq2))
      rw [e1] at H2
      unfold ptrV LPost at H2
      generalize Cd.Rd.manyL (gOp s) (Cd.Rd.num s 1 r1).1 (Cd.Rd.num s 1 r1).2 = t2 at H2 ⊢
      obtain ⟨Lo, r2⟩ := t2
      dsimp only at H2 ⊢
      obtain ⟨hl2, hf2⟩ : r2.pos ≤ s.length ∧ (r2.fk = 0 → r2.fa = 0) := by
        obtain ⟨e, w', a, n, c, _, _, _, x1, x2⟩ := calls_post (H2.out _ (h.pos r1.pos))
        exact ⟨x1, fun hh => (x2 hh).1⟩
      by_cases g2 : r2.fk = 0
      · rw [errV_ok g2] at H2
        have e2 := (rd_ok g2 (hf2 g2)).symm
        have H3 := hid (fun (V : World) (hv : PM V b s r2.pos) => list_han V b s r2.pos 2 RHan (fun r => r.han s) RHan.ok hv hs hl2 (by omega) (fun V2 q2 h2 hq2 => dhandler_c V2 b s q2 h2 hs hq2))
        rw [e2] at H3
        unfold ptrV LPost at H3
        generalize Cd.Rd.manyL (fun r => r.han s) (Cd.Rd.num s 2 r2).1 (Cd.Rd.num s 2 r2).2 = t3 at H3 ⊢
        obtain ⟨Lh, r3⟩ := t3
        dsimp only at H3 ⊢
        obtain ⟨hl3, hf3⟩ : r3.pos ≤ s.length ∧ (r3.fk = 0 → r3.fa = 0) := by
          obtain ⟨e, w', a, n, c, _, _, _, x1, x2⟩ := calls_post (H3.out _ (h.pos r2.pos))
          exact ⟨x1, fun hh => (x2 hh).1⟩
        by_cases g3 : r3.fk = 0
        · rw [errV_ok g3] at H3
          have e3 := (rd_ok g3 (hf3 g3)).symm
          have H4 := hid (fun (V : World) (hv : PM V b s r3.pos) => list_fun V b s r3.pos 2 RFun (fun r => r.fn s) RFun.ok hv hs hl3 (by omega) (fun V2 q2 h2 hq2 => dfunction_c V2 b s q2 h2 hs hq2))
          rw [e3] at H4
          unfold ptrV LPost at H4
          generalize Cd.Rd.manyL (fun r => r.fn s) (Cd.Rd.num s 2 r3).1 (Cd.Rd.num s 2 r3).2 = t4 at H4 ⊢
          obtain ⟨Lf, r4⟩ := t4
          dsimp only at H4 ⊢
          obtain ⟨hl4, hf4⟩ : r4.pos ≤ s.length ∧ (r4.fk = 0 → r4.fa = 0) := by
            obtain ⟨e, w', a, n, c, _, _, _, x1, x2⟩ := calls_post (H4.out _ (h.pos r3.pos))
            exact ⟨x1, fun hh => (x2 hh).1⟩
          by_cases g4 : r4.fk = 0
          · rw [errV_ok g4] at H4
            have e4 := (rd_ok g4 (hf4 g4)).symm
            have HE := hid (fun (V : World) (hv : PM V b s r4.pos) => dend_c V b s r4.pos hv hs hl4)
            rw [e4] at HE
            exact code_leaf5 W b s hs hbl t r1.pos r2.pos r3.pos r4.pos Lo Lh Lf (⟨t, Lo, Lh, Lf⟩, endR s r4) HH' H1 (hid (fun V hv => (H2.out V hv).mono (fun e w' hh => by
          obtain ⟨a, n, c, a1, a2, a3, a4, a5⟩ := hh
          exact ⟨a, n, c, a1, a2, a3, trivial, (a5 g2).2⟩))) (hid (fun V hv => (H3.out V hv).mono (fun e w' hh => by
          obtain ⟨a, n, c, a1, a2, a3, a4, a5⟩ := hh
          exact ⟨a, n, c, a1, a2, a3, trivial, (a5 g3).2⟩))) (hid (fun V hv => (H4.out V hv).mono (fun e w' hh => by
          obtain ⟨a, n, c, a1, a2, a3, a4, a5⟩ := hh
          exact ⟨a, n, c, a1, a2, a3, trivial, (a5 g4).2⟩))) HE rfl
          · rw [errV_no g4] at H4
            exact code_leaf4 W b s hs hbl t r1.pos r2.pos r3.pos Lo Lh r4 g4 _ (endR_bad g4) HH' H1 (hid (fun V hv => (H2.out V hv).mono (fun e w' hh => by
          obtain ⟨a, n, c, a1, a2, a3, a4, a5⟩ := hh
          exact ⟨a, n, c, a1, a2, a3, trivial, (a5 g2).2⟩))) (hid (fun V hv => (H3.out V hv).mono (fun e w' hh => by
          obtain ⟨a, n, c, a1, a2, a3, a4, a5⟩ := hh
          exact ⟨a, n, c, a1, a2, a3, trivial, (a5 g3).2⟩))) (hid (fun V hv => (H4.out V hv).mono (fun e w' hh => by
          obtain ⟨a, n, c, a1, a2, a3, a4, a5⟩ := hh
          exact ⟨a, n, c, a1, a2, a3, trivial, trivial⟩)))
        · rw [errV_no g3] at H3
          rw [many_bad g3]
          dsimp only
          exact code_leaf3 W b s hs hbl t r1.pos r2.pos Lo r3 g3 _ (endR_bad g3) HH' H1 (hid (fun V hv => (H2.out V hv).mono (fun e w' hh => by
          obtain ⟨a, n, c, a1, a2, a3, a4, a5⟩ := hh
          exact ⟨a, n, c, a1, a2, a3, trivial, (a5 g2).2⟩))) (hid (fun V hv => (H3.out V hv).mono (fun e w' hh => by
          obtain ⟨a, n, c, a1, a2, a3, a4, a5⟩ := hh
          exact ⟨a, n, c, a1, a2, a3, trivial, trivial⟩)))
      · rw [errV_no g2] at H2
        rw [many_bad g2]
        dsimp only
        rw [many_bad g2]
        dsimp only
        exact code_leaf2 W b s hs hbl t r1.pos r2 g2 _ (endR_bad g2) HH' H1  (hid (fun V hv => (H2.out V hv).mono (fun e w' hh => by
          obtain ⟨a, n, c, a1, a2, a3, a4, a5⟩ := hh
          exact ⟨a, n, c, a1, a2, a3, trivial, trivial⟩)))
    · rw [errV_no g1] at H1
      rw [many_bad g1]
      dsimp only
      rw [many_bad g1]
      dsimp only
      rw [many_bad g1]
      dsimp only
      exact code_leaf1 W b s hs hbl t r1 g1 _ (endR_bad g1) HH' H1
  · rw [errV_no h0] at HH
    exact code_leaf0 W b s hs hbl r0 h0 _ (code_bad h0) (hid (HH.mono (fun e w' hh => by
      obtain ⟨a1, ⟨p, a2, a3, a4⟩, a5⟩ := hh
      exact ⟨a1, ⟨p, a2, a3, fun h => h.elim⟩, a5⟩)))
end Go.Proofs.YtpjbfdpblgjmfaaGreatDoor
