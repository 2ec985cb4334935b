import Derived.Test.YtejciampbnfbhaaJb
import Derived.Test.YtejciampbnfbhaaJc
import Derived.Test.YtejciampbnfbhaaRxT
import Derived.Test.YtejciampbnfbhaaMDz
import Derived.Test.YtejciampbnfbhaaHw
import Derived.Deep.RegionWith
import Derived.Deep.LoopGhost
set_option linter.unusedVariables false
set_option linter.unusedSimpArgs false
set_option maxRecDepth 100000
set_option maxHeartbeats 16000000
namespace Go.Proofs.Ytejciampbnfbhaa
open Go.RowKit Ie
theorem out_cells {w : World} {b : Nat} {G : Gg} {d : Dg.D} (h : GD w b G d) {k : Nat} {cs : Array Value} {T : TypeId} {fz : Nat × Nat} (hk : w.heap[k]? = some (.cells cs T fz)) (hT : T ≠ 9) (hno : ¬ G.own b k) : G.out b k := by
 refine ⟨hno, fun i u hu e => ?_⟩
 have hi := (List.getElem?_eq_some_iff.1 hu).1
 have : i < d.ops.length := by rw [← h.ol]; exact hi
 obtain ⟨u', h1, h2, _⟩ := h.ov i d.ops[i] (List.getElem?_eq_getElem this)
 rw [hu] at h1
 obtain rfl := Option.some.inj h1
 obtain ⟨a, c, rfl, h3⟩ := h2
 rcases h3 with ⟨rfl, _⟩ | ⟨g, q, rfl, _, ⟨cs', fz', hg⟩, _⟩
 ·cases e
 ·have : g = k := Option.some.inj e
  subst this
  rw [hg] at hk
  simp at hk
  exact hT hk.2.1.symm
theorem out_map {w : World} {b : Nat} {G : Gg} {d : Dg.D} (h : GD w b G d) {k : Nat} {es : Array MapEntry} {c : Nat} (hk : w.heap[k]? = some (.map es c)) (hno : ¬ G.own b k) : G.out b k := by
 refine ⟨hno, fun i u hu e => ?_⟩
 have hi := (List.getElem?_eq_some_iff.1 hu).1
 have : i < d.ops.length := by rw [← h.ol]; exact hi
 obtain ⟨u', h1, h2, _⟩ := h.ov i d.ops[i] (List.getElem?_eq_getElem this)
 rw [hu] at h1
 obtain rfl := Option.some.inj h1
 obtain ⟨a, c, rfl, h3⟩ := h2
 rcases h3 with ⟨rfl, _⟩ | ⟨g, q, rfl, _, ⟨cs', fz', hg⟩, _⟩
 ·cases e
 ·have : g = k := Option.some.inj e
  subst this
  rw [hg] at hk
  simp at hk
theorem row_blk {w : World} {e : TypeId} {size : Nat} {v : Value} {n k : Nat} {xs : List Value} (h : w.ownsRow 0 e size v n xs) (hk : v.ownBlock = some k) : ∃ cs fz, w.heap[k]? = some (.cells cs e fz) := by
 rcases h.2 with ⟨rfl, _⟩ | ⟨g', cap, cur, rfl, _, hg', _⟩
 ·cases hk
 ·have : g' = k := Option.some.inj hk
  subst this
  exact ⟨_, _, hg'⟩
theorem cell_keeps {w w' : World} (hc : Ch (fun _ => False) w w') {p : Addr} {v : Value} (h : w.cell? p = some v) : w'.cell? p = some v := (hc.cell (block_lt_of_cell h) (fun h => h)).trans h
theorem fresh_slice {w w' : World} {u : Value} {l : List (List UInt8)} (h : Fresh w w' u l) : ∃ a n c, u = .slice a n c := by
 obtain ⟨a, c, e, _⟩ := row_slice h.1
 exact ⟨_, _, _, e⟩
def GE (w : World) (b : Nat) (G : Gg) (e : E) : Prop := ∃ d, R e d ∧ GD w b G d
def GT (w : World) (b : Nat) (G : Gg) (w' : World) (e' : E) : Prop := ∃ G', GE w' b G' e' ∧ Ch (G.own b) w w' ∧ More w (G.own b) (G'.own b)
theorem GT.of {w w' : World} {b : Nat} {G : Gg} {d' : Dg.D} {e' : E} (h : GS w b G w' d') (hr : R e' d') : GT w b G w' e' := by
 obtain ⟨G', h1, h2, h3⟩ := h
 exact ⟨G', ⟨d', hr, h1⟩, h2, h3⟩
theorem GE.quiet {w w' : World} {b : Nat} {G : Gg} {e : E} (h : GE w b G e) (hc : Ch (fun _ => False) w w') : GE w' b G e := by
 obtain ⟨d, h1, h2⟩ := h
 exact ⟨d, h1, h2.quiet hc⟩
theorem GE.Put {w : World} {b : Nat} {G : Gg} {e e' : E} {k a c r n : Int} (h : GE w b G e) (hp : e.put k a c r = some (n, e')) :
  Calls Try.prog 63 #[.pointer (some ⟨b, 0, none⟩), .int .i64 k, .int .i64 a, .int .i64 c, .int .i64 r] w fun en w' => en = .returned (.int .i64 n) ∧ GT w b G w' e' := by
 obtain ⟨d, h1, h2⟩ := h
 obtain ⟨rfl, h3⟩ := h1.put hp
 exact (h2.Put h1.small k a c r).mono fun en w' ⟨x, y⟩ => ⟨x, GT.of y h3⟩
theorem GE.PutRow {w : World} {b : Nat} {G : Gg} {e e' : E} {o : List (List UInt8)} {v : Value} {x n : Int} (h : GE w b G e) (hv : SV w v o) (ha : ∀ k, v.ownBlock = some k → ¬ G.own b k) (hp : e.putRow o x = some (n, e')) :
  Calls Try.prog 35 #[.pointer (some ⟨b, 0, none⟩), v, .int .i64 x] w fun en w' => en = .returned (.int .i64 n) ∧ GT w b G w' e' := by
 obtain ⟨d, h1, h2⟩ := h
 obtain ⟨rfl, h3⟩ := h1.putRow hp
 exact (h2.PutRow h1.small hv ha x).mono fun en w' ⟨x, y⟩ => ⟨x, GT.of y h3⟩
theorem GE.Var {w : World} {b : Nat} {G : Gg} {e e' : E} {n : Int} (h : GE w b G e) (hp : e.var = some (n, e')) :
  Calls Try.prog 51 #[.pointer (some ⟨b, 0, none⟩)] w fun en w' => en = .returned (.int .i64 n) ∧ GT w b G w' e' := by
 obtain ⟨d, h1, h2⟩ := h
 obtain ⟨rfl, h3⟩ := h1.put hp
 exact (h2.Var h1.small).mono fun en w' ⟨x, y⟩ => ⟨x, GT.of y h3⟩
theorem GE.Open {w : World} {b : Nat} {G : Gg} {e e' : E} {n : Int} (h : GE w b G e) (hp : e.opn = some (n, e')) :
  Calls Try.prog 50 #[.pointer (some ⟨b, 0, none⟩)] w fun en w' => en = .returned (.int .i64 n) ∧ GT w b G w' e' := by
 obtain ⟨d, h1, h2⟩ := h
 obtain ⟨rfl, h3⟩ := h1.putRow hp
 exact (h2.Open h1.small).mono fun en w' ⟨x, y⟩ => ⟨x, GT.of y h3⟩
theorem GE.Find {w : World} {b : Nat} {G : Gg} {e : E} (h : GE w b G e) {f : Nat} {n m : Int} (hf : Ie.find f e n = some m) :
  Calls Try.prog 57 #[.pointer (some ⟨b, 0, none⟩), .int .i64 n] w fun en w' => en = .returned (.int .i64 m) ∧ w' = w := by
 obtain ⟨d, h1, h2⟩ := h
 exact h2.Find (h1.find hf)
theorem GE.Whole {w : World} {b : Nat} {G : Gg} {e : E} (h : GE w b G e) {f : Nat} {r : Int} {p : List (List UInt8) × Int} (hf : Ie.whole f e r [] = some p) :
  Calls Try.prog 59 #[.pointer (some ⟨b, 0, none⟩), .int .i64 r] w fun en w' => ∃ u, en = .returned (.tuple #[u, .int .i64 p.2]) ∧ Fresh w w' u p.1 := by
 obtain ⟨d, h1, h2⟩ := h
 exact h2.Whole (h1.whole hf)
theorem GE.SameRow {w : World} {b : Nat} {G : Gg} {e e' : E} (h : GE w b G e) {f : Nat} {r s : Int} {ok : Bool} (hf : Ie.sameRow f e r s = some (ok, e')) :
  Calls Try.prog 90 #[.pointer (some ⟨b, 0, none⟩), .int .i64 r, .int .i64 s] w fun en w' => en = .returned (.bool ok) ∧ GT w b G w' e' := by
 obtain ⟨d, h1, h2⟩ := h
 obtain ⟨d', h3, h4⟩ := h1.sameRow hf
 exact (h2.SameRow h3).mono fun en w' ⟨x, y⟩ => ⟨x, GT.of y h4⟩
theorem GE.Same {w : World} {b : Nat} {G : Gg} {e e' : E} (h : GE w b G e) {f k : Nat} {m n : Int} {ok : Bool} (hf : Ie.same f k e m n = some (ok, e')) :
  Calls Try.prog 78 #[.pointer (some ⟨b, 0, none⟩), .int .i64 m, .int .i64 n] w fun en w' => en = .returned (.bool ok) ∧ GT w b G w' e' := by
 obtain ⟨d, h1, h2⟩ := h
 obtain ⟨d', h3, h4⟩ := h1.same hf
 exact (Same_any b f k h2 h3).mono fun en w' ⟨x, y⟩ => ⟨x, GT.of y h4⟩
theorem GE.Round {w : World} {b : Nat} {G : Gg} {e : E} (h : GE w b G e) {f k : Nat} {n : Int} {p : Bool × List (Int × Int)} (hf : Ie.round f k e n [] = some p) :
  Calls Try.prog 79 #[.pointer (some ⟨b, 0, none⟩), .int .i64 n] w fun en w' => en = .returned (.bool p.1) ∧ Ch (fun _ => False) w w' := by
 obtain ⟨d, h1, h2⟩ := h
 exact h2.Round (h1.round hf)
theorem GE.Parts {w : World} {b : Nat} {G : Gg} {e : E} (h : GE w b G e) {f k : Nat} {n : Int} {p : Int × List (Int × Int)} (hf : Ie.parts f k e n [] = some p) :
  Calls Try.prog 54 #[.pointer (some ⟨b, 0, none⟩), .int .i64 n] w fun en w' => en = .returned (.int .i64 p.1) ∧ Ch (fun _ => False) w w' := by
 obtain ⟨d, h1, h2⟩ := h
 exact h2.Parts (h1.parts hf)
theorem GE.at {w : World} {b : Nat} {G : Gg} {e : E} (h : GE w b G e) {i : Int} {x : Nd} (hx : e.at i = some x) : ∃ n : Nat, i = n ∧ n < e.n ∧
  (∃ g cap, G.v 0 = .slice (some ⟨g, 0, none⟩) e.n cap ∧ w.cell? ⟨g, n, none⟩ = some (.int .i64 x.k)) ∧ (∃ g cap, G.v 1 = .slice (some ⟨g, 0, none⟩) e.n cap ∧ w.cell? ⟨g, n, none⟩ = some (.int .i64 x.a)) ∧
  (∃ g cap, G.v 2 = .slice (some ⟨g, 0, none⟩) e.n cap ∧ w.cell? ⟨g, n, none⟩ = some (.int .i64 x.b)) ∧ ∃ g cap, G.v 3 = .slice (some ⟨g, 0, none⟩) e.n cap ∧ w.cell? ⟨g, n, none⟩ = some (.int .i64 x.r) := by
 obtain ⟨d, h1, h2⟩ := h
 obtain ⟨n, rfl, hn, hk, ha, hb, hr, _⟩ := h1.at hx
 obtain ⟨g0, c0, a0, b0, _⟩ := GD.intAt h2.gm (j := 0) (by omega) h2.x0 (at_nat hk)
 obtain ⟨g1, c1, a1, b1, _⟩ := GD.intAt h2.gm (j := 1) (by omega) h2.x1 (at_nat ha)
 obtain ⟨g2, c2, a2, b2, _⟩ := GD.intAt h2.gm (j := 2) (by omega) h2.x2 (at_nat hb)
 obtain ⟨g3, c3, a3, b3, _⟩ := GD.intAt h2.gm (j := 3) (by omega) h2.x3 (at_nat hr)
 rw [h1.l0] at a0
 rw [h1.l1] at a1
 rw [h1.l2] at a2
 rw [h1.l3] at a3
 exact ⟨n, rfl, hn, ⟨g0, c0, a0, b0⟩, ⟨g1, c1, a1, b1⟩, ⟨g2, c2, a2, b2⟩, g3, c3, a3, b3⟩
theorem GE.gcells {w : World} {b : Nat} {G : Gg} {e : E} (h : GE w b G e) : w.cell? ⟨b, 0, none⟩ = some (G.v 0) ∧ w.cell? ⟨b, 1, none⟩ = some (G.v 1) ∧ w.cell? ⟨b, 2, none⟩ = some (G.v 2) ∧ w.cell? ⟨b, 3, none⟩ = some (G.v 3) := by
 obtain ⟨d, h1, h2⟩ := h
 obtain ⟨a, b, c, d, _⟩ := h2.gm.cells
 exact ⟨a, b, c, d⟩
end Go.Proofs.Ytejciampbnfbhaa

namespace Go.Proofs.Ytejciampbnfbhaa
open Go.RowKit Ie
structure VM (w : World) (c b : Nat) (G : Gg) (e : E) : Prop where
 ge : GE w b G e
 c0 : ∃ cs fz, w.heap[c]? = some (.cells cs 66 fz) ∧ w.cell? ⟨c, 0, none⟩ = some (.pointer (some ⟨b, 0, none⟩))
abbrev isM (s t r : Nat) : Nat → Prop := fun j => j = s ∨ j = t ∨ j = r
structure MS (w : World) (b : Nat) (G : Gg) (s t r : Nat) (S : Sets) : Prop where
 ms : SM w s S.1
 mt : SM w t S.2.1
 mr : SM w r S.2.2
 st : s ≠ t
 sr : s ≠ r
 tr : t ≠ r
 os : ¬ G.own b s
 ot : ¬ G.own b t
 or : ¬ G.own b r
theorem MS.isM {w : World} {b : Nat} {G : Gg} {s t r : Nat} {S : Sets} (h : MS w b G s t r S) {k : Nat} (hk : isM s t r k) : ¬ G.own b k ∧ ∃ es c, w.heap[k]? = some (.map es c) := by
 rcases hk with rfl | rfl | rfl
 ·obtain ⟨es, c, h1, _⟩ := h.ms; exact ⟨h.os, es, c, h1⟩
 ·obtain ⟨es, c, h1, _⟩ := h.mt; exact ⟨h.ot, es, c, h1⟩
 ·obtain ⟨es, c, h1, _⟩ := h.mr; exact ⟨h.or, es, c, h1⟩
theorem VM.step {w w' : World} {c b : Nat} {G : Gg} {e : E} {O : Nat → Prop} (h : VM w c b G e) (hO : ∀ k, O k → ¬ G.own b k ∧ ∃ es c, w.heap[k]? = some (.map es c)) (hc : Ch O w w') : VM w' c b G e := by
 obtain ⟨⟨d, h1, h2⟩, cs, fz, h3, h4⟩ := h
 have hcO : ¬ O c := fun q => by
  obtain ⟨_, es, x, hx⟩ := hO c q
  rw [h3] at hx
  simp at hx
 have hlt := (Array.getElem?_eq_some_iff.1 h3).1
 refine ⟨⟨d, h1, h2.apart hc (fun k hk q => (hO k q).1 hk) (fun i u k hu hk q => ?_)⟩, cs, fz, (hc.same c hlt hcO).trans h3, (hc.cell (p := ⟨c, 0, none⟩) hlt hcO).trans h4⟩
 obtain ⟨h5, es, x, hx⟩ := hO k q
 exact (out_map h2 hx h5).2 i u hu hk
theorem VM.quiet {w w' : World} {c b : Nat} {G : Gg} {e : E} (h : VM w c b G e) (hc : Ch (fun _ => False) w w') : VM w' c b G e := h.step (fun _ h => h.elim) hc
theorem Ch.isM {s t r : Nat} {a b c : World} (h : Ch (isM s t r) a b) (k : Ch (isM s t r) b c) : Ch (isM s t r) a c := h.trans k (fun _ h => .inl h)
theorem MS.seen {w w' : World} {b : Nat} {G : Gg} {s t r : Nat} {S : Sets} (h : MS w b G s t r S) {A : List Int} (hs : SM w' s A) (hc : Ch (fun j => j = s) w w') : MS w' b G s t r (A, S.2) :=
 ⟨hs, h.mt.ch hc (fun q => h.st q.symm), h.mr.ch hc (fun q => h.sr q.symm), h.st, h.sr, h.tr, h.os, h.ot, h.or⟩
theorem MS.tv {w w' : World} {b : Nat} {G : Gg} {s t r : Nat} {S : Sets} (h : MS w b G s t r S) {A : List Int} (hs : SM w' t A) (hc : Ch (fun j => j = t) w w') : MS w' b G s t r (S.1, A, S.2.2) :=
 ⟨h.ms.ch hc h.st, hs, h.mr.ch hc (fun q => h.tr q.symm), h.st, h.sr, h.tr, h.os, h.ot, h.or⟩
theorem MS.rv {w w' : World} {b : Nat} {G : Gg} {s t r : Nat} {S : Sets} (h : MS w b G s t r S) {A : List Int} (hs : SM w' r A) (hc : Ch (fun j => j = r) w w') : MS w' b G s t r (S.1, S.2.1, A) :=
 ⟨h.ms.ch hc h.sr, h.mt.ch hc h.tr, hs, h.st, h.sr, h.tr, h.os, h.ot, h.or⟩
theorem MS.quiet {w w' : World} {b : Nat} {G : Gg} {s t r : Nat} {S : Sets} (h : MS w b G s t r S) (hc : Ch (fun _ => False) w w') : MS w' b G s t r S :=
 ⟨h.ms.quiet hc, h.mt.quiet hc, h.mr.quiet hc, h.st, h.sr, h.tr, h.os, h.ot, h.or⟩
theorem ch_s {s t r : Nat} {a b : World} (h : Ch (fun j => j = s) a b) : Ch (isM s t r) a b := h.mono (fun _ h => .inl h)
theorem ch_t {s t r : Nat} {a b : World} (h : Ch (fun j => j = t) a b) : Ch (isM s t r) a b := h.mono (fun _ h => .inr (.inl h))
theorem ch_r {s t r : Nat} {a b : World} (h : Ch (fun j => j = r) a b) : Ch (isM s t r) a b := h.mono (fun _ h => .inr (.inr h))
theorem ch_q {s t r : Nat} {a b : World} (h : Ch (fun _ => False) a b) : Ch (isM s t r) a b := h.mono (fun _ h => h.elim)
theorem run_has1 {w : World} {mB : Nat} {S : List Int} (h : SM w mB S) {k : Int} (hk : k ∈ S) : (Instr.lookup 71 (.map (some mB)) (.int .i64 k) false).run Try.prog w = .ok (.bool true) w := by rw [run_has h, decide_eq_true hk]
theorem run_has0 {w : World} {mB : Nat} {S : List Int} (h : SM w mB S) {k : Int} (hk : k ∉ S) : (Instr.lookup 71 (.map (some mB)) (.int .i64 k) false).run Try.prog w = .ok (.bool false) w := by rw [run_has h, decide_eq_false hk]
def VarsOK (c b f k : Nat) : Prop := ∀ {w : World} {G : Gg} {e : E} {n : Int} {s t r : Nat} {S S' : Sets}, VM w c b G e → MS w b G s t r S → Ie.vars f k e n S = some S' →
 Calls Try.prog 56 #[.pointer (some ⟨c, 0, none⟩), .int .i64 n, .map (some s), .map (some t), .map (some r)] w fun en w' => en = .returned (.tuple #[]) ∧ MS w' b G s t r S' ∧ Ch (isM s t r) w w'
theorem Vars_step {c b f k : Nat} (ih : VarsOK c b f k) : VarsOK c b f (k + 1) := by
 intro w G e n s t r S S' hv hm hr
 unfold Ie.vars at hr
 obtain ⟨n', fn, hr1⟩ := Option.bind_eq_some_iff.1 hr
 clear hr
 have H1 := hv.ge.Find fn
 clear fn
 replace ih := @hid _ @ih
 obtain ⟨-, -, -, c0⟩ := hv.c0
 replace hv := hid hv
 replace hm := hid hm
 by_cases hx : n' ∈ S.1
 ·rw [if_pos hx] at hr1
  obtain rfl := Option.some.inj hr1
  have hlk := run_has1 hm.out.ms hx
  go_enter Try.func56, Try.ntmps56
  go_wp2_with (go_at_call 57; refine H1.mono ?_; clear H1; rintro e w1 ⟨rfl, hw1⟩; obtain rfl := hw1.symm)
  (first | go_end0 | ((try simp only [Exit.inBlock, Exit.then]); refine bodyPost_ret (results_none rfl _ _ _) rfl ?_))
  exact ⟨by first | rfl | simp, hm.out, Ch.refl _ _⟩
 ·rw [if_neg hx] at hr1
  have hlk := run_has0 hm.out.ms hx
  obtain ⟨x, hxn, hr2⟩ := Option.bind_eq_some_iff.1 hr1
  clear hr1
  obtain ⟨w1, hu, s1, ch1⟩ := run_join hm.out.ms n'
  have hm1 := hid (hm.out.seen s1 ch1)
  have hc1 := hid (ch_s (t := t) (r := r) ch1)
  have hv1 := hid (hv.out.step (fun k => hm.out.isM) hc1.out)
  clear s1 ch1
  go_enter Try.func56, Try.ntmps56
  go_upto_region 3 with (go_at_call 57; refine H1.mono ?_; clear H1; rintro e w1 ⟨rfl, hw1⟩; obtain rfl := hw1.symm)
  clear hu hlk hx c0
  obtain ⟨-, -, -, c0⟩ := hv1.out.c0
  obtain ⟨ni, rfl, hni, ⟨kg, kc, k1, k2⟩, ⟨ag, ac, a1, a2⟩, -, -⟩ := hv1.out.ge.at hxn
  obtain ⟨g0, g1, -, -⟩ := hv1.out.ge.gcells
  rw [k1] at g0
  rw [a1] at g1
  clear k1 a1
  have hni2 : (ni : Int) < (e.n : Int) := by omega
  by_cases hk : x.k = 0
  ·rw [if_pos hk] at hr2
   obtain rfl := Option.some.inj hr2; rw [hk] at k2; obtain ⟨w2, hu, s2, ch2⟩ := run_join hm1.out.mt (ni : Int)
   go_wp2
   (first | go_end0 | ((try simp only [Exit.inBlock, Exit.then]); refine bodyPost_ret (results_none rfl _ _ _) rfl ?_))
   exact ⟨by first | rfl | simp, hm1.out.tv s2 ch2, hc1.out.isM (ch_t ch2)⟩
  ·rw [if_neg hk] at hr2
   obtain ⟨P, hp, hr3⟩ := Option.bind_eq_some_iff.1 hr2; obtain ⟨Q, hq, hr4⟩ := Option.bind_eq_some_iff.1 hr3; rw [cond_nat] at hp hq; clear hr2 hr3; replace hr4 := hid hr4; replace hq := hid hq
   by_cases ha : 0 ≤ x.a
   ·rw [if_pos ha] at hp
    have HR := ih.out hv1.out hm1.out hp
    go_upto_region 7 with (go_at_call 56; refine HR.mono ?_; clear HR; rintro e w2 ⟨rfl, hm2, hc2⟩; have hv2 := hid (hv1.out.step (fun k => hm1.out.isM) hc2); replace hc2 := hid (hc1.out.isM hc2); replace hm2 := hid hm2)
    clear c0 g0 g1 k2 a2; obtain ⟨-, -, -, c0⟩ := hv2.out.c0; obtain ⟨ni', e1, -, ⟨kg, kc, k1, k2⟩, -, ⟨bg, bc, b1, b2⟩, -⟩ := hv2.out.ge.at hxn; obtain rfl : ni = ni' := by omega
    obtain ⟨g0, -, g2, -⟩ := hv2.out.ge.gcells; rw [k1] at g0; rw [b1] at g2; clear k1 b1 e1; have hq2 := hq.out
    by_cases hb : 0 ≤ x.b
    ·rw [if_pos hb] at hq2
     have HR := ih.out hv2.out hm2.out hq2
     go_upto_region 9 with (go_at_call 56; refine HR.mono ?_; clear HR; rintro e w3 ⟨rfl, hm3, hc3⟩; have hv3 := hid (hv2.out.step (fun k => hm2.out.isM) hc3); replace hc3 := hid (hc2.out.isM hc3); replace hm3 := hid hm3)
     clear c0 g0 g2 k2 b2; obtain ⟨-, -, -, c0⟩ := hv3.out.c0; obtain ⟨ni', e1, -, ⟨kg, kc, k1, k2⟩, -, -, rg, rc, r1, r2⟩ := hv3.out.ge.at hxn; obtain rfl : ni = ni' := by omega
     obtain ⟨g0, -, -, g3⟩ := hv3.out.ge.gcells; rw [k1] at g0; rw [r1] at g3; clear k1 r1 e1; have hr5 := hr4.out
     by_cases h6 : x.k = 6
     ·rw [if_pos h6] at hr5
      obtain ⟨W, hW, hr6⟩ := Option.bind_eq_some_iff.1 hr5; rw [h6] at k2; clear hr5 hr4
      go_upto_region 10 with (fail)
      have hS0 : (fun w' => w'.cell? ⟨c, 0, none⟩ = some (.pointer (some ⟨b, 0, none⟩)) ∧ w'.cell? ⟨b, 3, none⟩ = some (.slice (some ⟨rg, 0, none⟩) e.n rc) ∧ w'.cell? ⟨rg, ni, none⟩ = some (.int .i64 x.r)) w3.drew := ⟨cell_keeps (Ch.drew (fun _ => False) w3) c0, cell_keeps (Ch.drew (fun _ => False) w3) g3, cell_keeps (Ch.drew (fun _ => False) w3) r2⟩; refine wp_region_held_drew (S := (fun w' => w'.cell? ⟨c, 0, none⟩ = some (.pointer (some ⟨b, 0, none⟩)) ∧ w'.cell? ⟨b, 3, none⟩ = some (.slice (some ⟨rg, 0, none⟩) e.n rc) ∧ w'.cell? ⟨rg, ni, none⟩ = some (.int .i64 x.r))) (by kernel_rfl) (by first | trivial | ((try dsimp only); go_keep)) (fun hHeld => ?_); refine tk 0 rfl ?_; refine tk 1 rfl ?_; refine tk 2 rfl ?_; refine tk 3 rfl ?_; refine tk 4 rfl ?_; refine tk 5 rfl ?_; refine tk 6 rfl ?_; refine tk 7 rfl ?_; refine tk 8 rfl ?_; refine tk 9 rfl ?_; refine tk 10 rfl ?_; refine tk 11 rfl ?_; refine tk 12 rfl ?_; refine tk 13 rfl ?_; refine rd1 14 rfl (fun K hK => ?_)
      go_simp
      refine ((hv3.out.ge.quiet (Ch.refl _ _).dr).Whole hW).mono ?_; rintro e' w4 ⟨u, rfl, hF⟩; have hS5 : (fun w' => w'.cell? ⟨c, 0, none⟩ = some (.pointer (some ⟨b, 0, none⟩)) ∧ w'.cell? ⟨b, 3, none⟩ = some (.slice (some ⟨rg, 0, none⟩) e.n rc) ∧ w'.cell? ⟨rg, ni, none⟩ = some (.int .i64 x.r)) w4 := ⟨cell_keeps hF.2.1 hS0.1, cell_keeps hF.2.1 hS0.2.1, cell_keeps hF.2.1 hS0.2.2⟩; obtain ⟨ua, un, uc, rfl⟩ := fresh_slice hF
      dsimp only
      clear hHeld; refine gn hK (fun hHeld => ?_); clear hK K; refine tk 15 rfl ?_; refine tk 16 rfl ?_; refine tk 17 rfl ?_; refine tk 18 rfl ?_; refine tk 19 rfl ?_; refine wpAnyH_done (by kernel_rfl) ?_ _; clear hHeld; have hcq := hid ((Ch.refl (fun _ => False) w3).dr.trans hF.2.1 (fun _ h => h.elim)); have hm4 := hid (hm3.out.quiet hcq.out); have hc4 := hid (hc3.out.isM (ch_q hcq.out)); clear hF
      by_cases h0 : 0 < W.2
      ·rw [if_pos h0] at hr6
       obtain rfl := Option.some.inj hr6; obtain ⟨w5, hu, s5, ch5⟩ := run_join hm4.out.mr W.2
       go_wp2
       (first | go_end0 | ((try simp only [Exit.inBlock, Exit.then]); refine bodyPost_ret (results_none rfl _ _ _) rfl ?_))
       exact ⟨by first | rfl | simp, hm4.out.rv s5 ch5, hc4.out.isM (ch_r ch5)⟩
      ·rw [if_neg h0] at hr6
       obtain rfl := Option.some.inj hr6
       go_wp2
       (first | go_end0 | ((try simp only [Exit.inBlock, Exit.then]); refine bodyPost_ret (results_none rfl _ _ _) rfl ?_))
       exact ⟨by first | rfl | simp, hm4.out, hc4.out⟩
     ·rw [if_neg h6] at hr5
      obtain rfl := Option.some.inj hr5
      go_wp2
      (first | go_end0 | ((try simp only [Exit.inBlock, Exit.then]); refine bodyPost_ret (results_none rfl _ _ _) rfl ?_))
      exact ⟨by first | rfl | simp, hm3.out, hc3.out⟩
    ·rw [if_neg hb] at hq2
     obtain rfl := Option.some.inj hq2; have hm3 := hm2; have hc3 := hc2; have hv3 := hv2; obtain ⟨w3, rfl⟩ : ∃ w3, w3 = w2 := ⟨_, rfl⟩
     go_upto_region 9 with (fail)
     clear c0 g0 g2 k2 b2; obtain ⟨-, -, -, c0⟩ := hv3.out.c0; obtain ⟨ni', e1, -, ⟨kg, kc, k1, k2⟩, -, -, rg, rc, r1, r2⟩ := hv3.out.ge.at hxn; obtain rfl : ni = ni' := by omega
     obtain ⟨g0, -, -, g3⟩ := hv3.out.ge.gcells; rw [k1] at g0; rw [r1] at g3; clear k1 r1 e1; have hr5 := hr4.out
     by_cases h6 : x.k = 6
     ·rw [if_pos h6] at hr5
      obtain ⟨W, hW, hr6⟩ := Option.bind_eq_some_iff.1 hr5; rw [h6] at k2; clear hr5 hr4
      go_upto_region 10 with (fail)
      have hS0 : (fun w' => w'.cell? ⟨c, 0, none⟩ = some (.pointer (some ⟨b, 0, none⟩)) ∧ w'.cell? ⟨b, 3, none⟩ = some (.slice (some ⟨rg, 0, none⟩) e.n rc) ∧ w'.cell? ⟨rg, ni, none⟩ = some (.int .i64 x.r)) w3.drew := ⟨cell_keeps (Ch.drew (fun _ => False) w3) c0, cell_keeps (Ch.drew (fun _ => False) w3) g3, cell_keeps (Ch.drew (fun _ => False) w3) r2⟩; refine wp_region_held_drew (S := (fun w' => w'.cell? ⟨c, 0, none⟩ = some (.pointer (some ⟨b, 0, none⟩)) ∧ w'.cell? ⟨b, 3, none⟩ = some (.slice (some ⟨rg, 0, none⟩) e.n rc) ∧ w'.cell? ⟨rg, ni, none⟩ = some (.int .i64 x.r))) (by kernel_rfl) (by first | trivial | ((try dsimp only); go_keep)) (fun hHeld => ?_); refine tk 0 rfl ?_; refine tk 1 rfl ?_; refine tk 2 rfl ?_; refine tk 3 rfl ?_; refine tk 4 rfl ?_; refine tk 5 rfl ?_; refine tk 6 rfl ?_; refine tk 7 rfl ?_; refine tk 8 rfl ?_; refine tk 9 rfl ?_; refine tk 10 rfl ?_; refine tk 11 rfl ?_; refine tk 12 rfl ?_; refine tk 13 rfl ?_; refine rd1 14 rfl (fun K hK => ?_)
      go_simp
      refine ((hv3.out.ge.quiet (Ch.refl _ _).dr).Whole hW).mono ?_; rintro e' w4 ⟨u, rfl, hF⟩; have hS5 : (fun w' => w'.cell? ⟨c, 0, none⟩ = some (.pointer (some ⟨b, 0, none⟩)) ∧ w'.cell? ⟨b, 3, none⟩ = some (.slice (some ⟨rg, 0, none⟩) e.n rc) ∧ w'.cell? ⟨rg, ni, none⟩ = some (.int .i64 x.r)) w4 := ⟨cell_keeps hF.2.1 hS0.1, cell_keeps hF.2.1 hS0.2.1, cell_keeps hF.2.1 hS0.2.2⟩; obtain ⟨ua, un, uc, rfl⟩ := fresh_slice hF
      dsimp only
      clear hHeld; refine gn hK (fun hHeld => ?_); clear hK K; refine tk 15 rfl ?_; refine tk 16 rfl ?_; refine tk 17 rfl ?_; refine tk 18 rfl ?_; refine tk 19 rfl ?_; refine wpAnyH_done (by kernel_rfl) ?_ _; clear hHeld; have hcq := hid ((Ch.refl (fun _ => False) w3).dr.trans hF.2.1 (fun _ h => h.elim)); have hm4 := hid (hm3.out.quiet hcq.out); have hc4 := hid (hc3.out.isM (ch_q hcq.out)); clear hF
      by_cases h0 : 0 < W.2
      ·rw [if_pos h0] at hr6
       obtain rfl := Option.some.inj hr6; obtain ⟨w5, hu, s5, ch5⟩ := run_join hm4.out.mr W.2
       go_wp2
       (first | go_end0 | ((try simp only [Exit.inBlock, Exit.then]); refine bodyPost_ret (results_none rfl _ _ _) rfl ?_))
       exact ⟨by first | rfl | simp, hm4.out.rv s5 ch5, hc4.out.isM (ch_r ch5)⟩
      ·rw [if_neg h0] at hr6
       obtain rfl := Option.some.inj hr6
       go_wp2
       (first | go_end0 | ((try simp only [Exit.inBlock, Exit.then]); refine bodyPost_ret (results_none rfl _ _ _) rfl ?_))
       exact ⟨by first | rfl | simp, hm4.out, hc4.out⟩
     ·rw [if_neg h6] at hr5
      obtain rfl := Option.some.inj hr5
      go_wp2
      (first | go_end0 | ((try simp only [Exit.inBlock, Exit.then]); refine bodyPost_ret (results_none rfl _ _ _) rfl ?_))
      exact ⟨by first | rfl | simp, hm3.out, hc3.out⟩
   ·rw [if_neg ha] at hp
    obtain rfl := Option.some.inj hp; have hm2 := hm1; have hc2 := hc1; have hv2 := hv1; obtain ⟨w2, rfl⟩ : ∃ w2, w2 = w1 := ⟨_, rfl⟩
    go_upto_region 7 with (fail)
    clear c0 g0 g1 k2 a2; obtain ⟨-, -, -, c0⟩ := hv2.out.c0; obtain ⟨ni', e1, -, ⟨kg, kc, k1, k2⟩, -, ⟨bg, bc, b1, b2⟩, -⟩ := hv2.out.ge.at hxn; obtain rfl : ni = ni' := by omega
    obtain ⟨g0, -, g2, -⟩ := hv2.out.ge.gcells; rw [k1] at g0; rw [b1] at g2; clear k1 b1 e1; have hq2 := hq.out
    by_cases hb : 0 ≤ x.b
    ·rw [if_pos hb] at hq2
     have HR := ih.out hv2.out hm2.out hq2
     go_upto_region 9 with (go_at_call 56; refine HR.mono ?_; clear HR; rintro e w3 ⟨rfl, hm3, hc3⟩; have hv3 := hid (hv2.out.step (fun k => hm2.out.isM) hc3); replace hc3 := hid (hc2.out.isM hc3); replace hm3 := hid hm3)
     clear c0 g0 g2 k2 b2; obtain ⟨-, -, -, c0⟩ := hv3.out.c0; obtain ⟨ni', e1, -, ⟨kg, kc, k1, k2⟩, -, -, rg, rc, r1, r2⟩ := hv3.out.ge.at hxn; obtain rfl : ni = ni' := by omega
     obtain ⟨g0, -, -, g3⟩ := hv3.out.ge.gcells; rw [k1] at g0; rw [r1] at g3; clear k1 r1 e1; have hr5 := hr4.out
     by_cases h6 : x.k = 6
     ·rw [if_pos h6] at hr5
      obtain ⟨W, hW, hr6⟩ := Option.bind_eq_some_iff.1 hr5; rw [h6] at k2; clear hr5 hr4
      go_upto_region 10 with (fail)
      have hS0 : (fun w' => w'.cell? ⟨c, 0, none⟩ = some (.pointer (some ⟨b, 0, none⟩)) ∧ w'.cell? ⟨b, 3, none⟩ = some (.slice (some ⟨rg, 0, none⟩) e.n rc) ∧ w'.cell? ⟨rg, ni, none⟩ = some (.int .i64 x.r)) w3.drew := ⟨cell_keeps (Ch.drew (fun _ => False) w3) c0, cell_keeps (Ch.drew (fun _ => False) w3) g3, cell_keeps (Ch.drew (fun _ => False) w3) r2⟩; refine wp_region_held_drew (S := (fun w' => w'.cell? ⟨c, 0, none⟩ = some (.pointer (some ⟨b, 0, none⟩)) ∧ w'.cell? ⟨b, 3, none⟩ = some (.slice (some ⟨rg, 0, none⟩) e.n rc) ∧ w'.cell? ⟨rg, ni, none⟩ = some (.int .i64 x.r))) (by kernel_rfl) (by first | trivial | ((try dsimp only); go_keep)) (fun hHeld => ?_); refine tk 0 rfl ?_; refine tk 1 rfl ?_; refine tk 2 rfl ?_; refine tk 3 rfl ?_; refine tk 4 rfl ?_; refine tk 5 rfl ?_; refine tk 6 rfl ?_; refine tk 7 rfl ?_; refine tk 8 rfl ?_; refine tk 9 rfl ?_; refine tk 10 rfl ?_; refine tk 11 rfl ?_; refine tk 12 rfl ?_; refine tk 13 rfl ?_; refine rd1 14 rfl (fun K hK => ?_)
      go_simp
      refine ((hv3.out.ge.quiet (Ch.refl _ _).dr).Whole hW).mono ?_; rintro e' w4 ⟨u, rfl, hF⟩; have hS5 : (fun w' => w'.cell? ⟨c, 0, none⟩ = some (.pointer (some ⟨b, 0, none⟩)) ∧ w'.cell? ⟨b, 3, none⟩ = some (.slice (some ⟨rg, 0, none⟩) e.n rc) ∧ w'.cell? ⟨rg, ni, none⟩ = some (.int .i64 x.r)) w4 := ⟨cell_keeps hF.2.1 hS0.1, cell_keeps hF.2.1 hS0.2.1, cell_keeps hF.2.1 hS0.2.2⟩; obtain ⟨ua, un, uc, rfl⟩ := fresh_slice hF
      dsimp only
      clear hHeld; refine gn hK (fun hHeld => ?_); clear hK K; refine tk 15 rfl ?_; refine tk 16 rfl ?_; refine tk 17 rfl ?_; refine tk 18 rfl ?_; refine tk 19 rfl ?_; refine wpAnyH_done (by kernel_rfl) ?_ _; clear hHeld; have hcq := hid ((Ch.refl (fun _ => False) w3).dr.trans hF.2.1 (fun _ h => h.elim)); have hm4 := hid (hm3.out.quiet hcq.out); have hc4 := hid (hc3.out.isM (ch_q hcq.out)); clear hF
      by_cases h0 : 0 < W.2
      ·rw [if_pos h0] at hr6
       obtain rfl := Option.some.inj hr6; obtain ⟨w5, hu, s5, ch5⟩ := run_join hm4.out.mr W.2
       go_wp2
       (first | go_end0 | ((try simp only [Exit.inBlock, Exit.then]); refine bodyPost_ret (results_none rfl _ _ _) rfl ?_))
       exact ⟨by first | rfl | simp, hm4.out.rv s5 ch5, hc4.out.isM (ch_r ch5)⟩
      ·rw [if_neg h0] at hr6
       obtain rfl := Option.some.inj hr6
       go_wp2
       (first | go_end0 | ((try simp only [Exit.inBlock, Exit.then]); refine bodyPost_ret (results_none rfl _ _ _) rfl ?_))
       exact ⟨by first | rfl | simp, hm4.out, hc4.out⟩
     ·rw [if_neg h6] at hr5
      obtain rfl := Option.some.inj hr5
      go_wp2
      (first | go_end0 | ((try simp only [Exit.inBlock, Exit.then]); refine bodyPost_ret (results_none rfl _ _ _) rfl ?_))
      exact ⟨by first | rfl | simp, hm3.out, hc3.out⟩
    ·rw [if_neg hb] at hq2
     obtain rfl := Option.some.inj hq2; have hm3 := hm2; have hc3 := hc2; have hv3 := hv2; obtain ⟨w3, rfl⟩ : ∃ w3, w3 = w2 := ⟨_, rfl⟩
     go_upto_region 9 with (fail)
     clear c0 g0 g2 k2 b2; obtain ⟨-, -, -, c0⟩ := hv3.out.c0; obtain ⟨ni', e1, -, ⟨kg, kc, k1, k2⟩, -, -, rg, rc, r1, r2⟩ := hv3.out.ge.at hxn; obtain rfl : ni = ni' := by omega
     obtain ⟨g0, -, -, g3⟩ := hv3.out.ge.gcells; rw [k1] at g0; rw [r1] at g3; clear k1 r1 e1; have hr5 := hr4.out
     by_cases h6 : x.k = 6
     ·rw [if_pos h6] at hr5
      obtain ⟨W, hW, hr6⟩ := Option.bind_eq_some_iff.1 hr5; rw [h6] at k2; clear hr5 hr4
      go_upto_region 10 with (fail)
      have hS0 : (fun w' => w'.cell? ⟨c, 0, none⟩ = some (.pointer (some ⟨b, 0, none⟩)) ∧ w'.cell? ⟨b, 3, none⟩ = some (.slice (some ⟨rg, 0, none⟩) e.n rc) ∧ w'.cell? ⟨rg, ni, none⟩ = some (.int .i64 x.r)) w3.drew := ⟨cell_keeps (Ch.drew (fun _ => False) w3) c0, cell_keeps (Ch.drew (fun _ => False) w3) g3, cell_keeps (Ch.drew (fun _ => False) w3) r2⟩; refine wp_region_held_drew (S := (fun w' => w'.cell? ⟨c, 0, none⟩ = some (.pointer (some ⟨b, 0, none⟩)) ∧ w'.cell? ⟨b, 3, none⟩ = some (.slice (some ⟨rg, 0, none⟩) e.n rc) ∧ w'.cell? ⟨rg, ni, none⟩ = some (.int .i64 x.r))) (by kernel_rfl) (by first | trivial | ((try dsimp only); go_keep)) (fun hHeld => ?_); refine tk 0 rfl ?_; refine tk 1 rfl ?_; refine tk 2 rfl ?_; refine tk 3 rfl ?_; refine tk 4 rfl ?_; refine tk 5 rfl ?_; refine tk 6 rfl ?_; refine tk 7 rfl ?_; refine tk 8 rfl ?_; refine tk 9 rfl ?_; refine tk 10 rfl ?_; refine tk 11 rfl ?_; refine tk 12 rfl ?_; refine tk 13 rfl ?_; refine rd1 14 rfl (fun K hK => ?_)
      go_simp
      refine ((hv3.out.ge.quiet (Ch.refl _ _).dr).Whole hW).mono ?_; rintro e' w4 ⟨u, rfl, hF⟩; have hS5 : (fun w' => w'.cell? ⟨c, 0, none⟩ = some (.pointer (some ⟨b, 0, none⟩)) ∧ w'.cell? ⟨b, 3, none⟩ = some (.slice (some ⟨rg, 0, none⟩) e.n rc) ∧ w'.cell? ⟨rg, ni, none⟩ = some (.int .i64 x.r)) w4 := ⟨cell_keeps hF.2.1 hS0.1, cell_keeps hF.2.1 hS0.2.1, cell_keeps hF.2.1 hS0.2.2⟩; obtain ⟨ua, un, uc, rfl⟩ := fresh_slice hF
      dsimp only
      clear hHeld; refine gn hK (fun hHeld => ?_); clear hK K; refine tk 15 rfl ?_; refine tk 16 rfl ?_; refine tk 17 rfl ?_; refine tk 18 rfl ?_; refine tk 19 rfl ?_; refine wpAnyH_done (by kernel_rfl) ?_ _; clear hHeld; have hcq := hid ((Ch.refl (fun _ => False) w3).dr.trans hF.2.1 (fun _ h => h.elim)); have hm4 := hid (hm3.out.quiet hcq.out); have hc4 := hid (hc3.out.isM (ch_q hcq.out)); clear hF
      by_cases h0 : 0 < W.2
      ·rw [if_pos h0] at hr6
       obtain rfl := Option.some.inj hr6; obtain ⟨w5, hu, s5, ch5⟩ := run_join hm4.out.mr W.2
       go_wp2
       (first | go_end0 | ((try simp only [Exit.inBlock, Exit.then]); refine bodyPost_ret (results_none rfl _ _ _) rfl ?_))
       exact ⟨by first | rfl | simp, hm4.out.rv s5 ch5, hc4.out.isM (ch_r ch5)⟩
      ·rw [if_neg h0] at hr6
       obtain rfl := Option.some.inj hr6
       go_wp2
       (first | go_end0 | ((try simp only [Exit.inBlock, Exit.then]); refine bodyPost_ret (results_none rfl _ _ _) rfl ?_))
       exact ⟨by first | rfl | simp, hm4.out, hc4.out⟩
     ·rw [if_neg h6] at hr5
      obtain rfl := Option.some.inj hr5
      go_wp2
      (first | go_end0 | ((try simp only [Exit.inBlock, Exit.then]); refine bodyPost_ret (results_none rfl _ _ _) rfl ?_))
      exact ⟨by first | rfl | simp, hm3.out, hc3.out⟩
theorem Vars_any (c b f : Nat) : ∀ k, VarsOK c b f k
 | 0 => fun _ _ h => by cases h
 | k + 1 => Vars_step (Vars_any c b f k)
end Go.Proofs.Ytejciampbnfbhaa

namespace Go.Proofs.Ytejciampbnfbhaa
open Go.RowKit Ie
structure It (w : World) (r a : Nat) (S : List Int) (n : Nat) (D : List Int) : Prop where
 it : ∃ es clock seen c0, w.heap[r]? = some (.mapIter (some a) clock seen c0) ∧ clock ≤ c0 ∧ w.heap[a]? = some (.map es clock) ∧ SE es clock S ∧ n = (leftOf es seen).size ∧ (∀ k : Int, k ∈ D ↔ ∃ e ∈ es.toList, e.key = .int .i64 k ∧ seen.contains e.born = true)
theorem It.keep {w w' : World} {r a : Nat} {S : List Int} {n : Nat} {D : List Int} (h : It w r a S n D) (hr : w'.heap[r]? = w.heap[r]?) (ha : w'.heap[a]? = w.heap[a]?) : It w' r a S n D := by
 obtain ⟨es, clock, seen, c0, h1, h2, h3, h4, h5, h6⟩ := h
 exact ⟨es, clock, seen, c0, hr.trans h1, h2, ha.trans h3, h4, h5, h6⟩
theorem It.lt {w : World} {r a : Nat} {S : List Int} {n : Nat} {D : List Int} (h : It w r a S n D) : r < w.heap.size ∧ a < w.heap.size := by
 obtain ⟨es, clock, seen, c0, h1, h2, h3, _⟩ := h
 exact ⟨(Array.getElem?_eq_some_iff.1 h1).1, (Array.getElem?_eq_some_iff.1 h3).1⟩
theorem It.ch {w w' : World} {r a : Nat} {S : List Int} {n : Nat} {D : List Int} {O : Nat → Prop} (h : It w r a S n D) (hc : Ch O w w') (hr : ¬ O r) (ha : ¬ O a) : It w' r a S n D := h.keep (hc.same r h.lt.1 hr) (hc.same a h.lt.2 ha)
theorem run_rangeS {w : World} {a : Nat} {S : List Int} (h : SM w a S) : ∃ w' n, (Instr.range 71 (.map (some a))).run Try.prog w = .ok (.pointer (some ⟨w.heap.size, 0, none⟩)) w' ∧ It w' w.heap.size a S n [] ∧ Ch (fun _ => False) w w' := by
 obtain ⟨es, clock, h1, h2⟩ := h
 have hlt := (Array.getElem?_eq_some_iff.1 h1).1
 exact ⟨_, _, run_range_map w 71 3 4 a es clock Try.undIB h1, ⟨es, clock, #[], clock, World.alloc_heap_new w _, Nat.le_refl _, (Below.heap_alloc _ _ _ hlt).trans h1, h2, rfl, fun k => by simp⟩, al_ch w _⟩
theorem setBlock_heap {w : World} {r : Nat} {o : Obj} (hr : r < w.heap.size) : (ChangeMaps.setBlock w r o).heap[r]? = some o := by
 simp [ChangeMaps.setBlock, hr]
theorem setBlock_other {w : World} {r k : Nat} {o : Obj} (hk : k ≠ r) : (ChangeMaps.setBlock w r o).heap[k]? = w.heap[k]? := by
 simp [ChangeMaps.setBlock, Array.getElem?_setIfInBounds, Ne.symm hk]
theorem setBlock_ch (w : World) (r : Nat) (o : Obj) : Ch (fun j => j = r) w (ChangeMaps.setBlock w r o) := ⟨by simp [ChangeMaps.setBlock], fun k _ hk => setBlock_other hk, rfl, rfl⟩
theorem It.next {w : World} {r a : Nat} {S : List Int} {n : Nat} {D : List Int} (h : It w r a S n D) (ty : TypeId) :
  (n = 0 ∧ (Instr.next (.pointer (some ⟨r, 0, none⟩)) false ty).run Try.prog w = .ok (.tuple #[.bool false]) w ∧ ∀ k, k ∈ D ↔ k ∈ S) ∨
  ∃ (k : Int) (v : Value) (w' : World) (m : Nat), (Instr.next (.pointer (some ⟨r, 0, none⟩)) false ty).run Try.prog w = .ok (.tuple #[.bool true, .int .i64 k, v]) w' ∧ (Instr.entry (.pointer (some ⟨r, 0, none⟩))).run Try.prog w' = .ok (.tuple #[.int .i64 k, v]) w' ∧ m < n ∧ It w' r a S m (k :: D) ∧ Ch (fun j => j = r) w w' ∧ k ∈ S := by
 obtain ⟨es, clock, seen, c0, h1, h2, h3, h4, h5, h6⟩ := h
 have hra : a ≠ r := fun e => by
  subst e
  rw [h1] at h3
  cases h3
 have hrl := (Array.getElem?_eq_some_iff.1 h1).1
 rcases run_next_at (P := Try.prog) w ty r a clock c0 seen es clock h1 h3 h4.1.1 h2 with ⟨h7, h8⟩ | ⟨e, he, w1, hw1, h8⟩
 ·refine .inl ⟨h5.trans h7, h8, fun k => (h6 k).trans ⟨fun ⟨e, he, hk, _⟩ => ?_, fun hk => ?_⟩⟩
  ·obtain ⟨_, k', e1, e2⟩ := h4.2.1 e he
   rw [hk] at e1; cases e1; exact e2
  ·obtain ⟨e, he, hke⟩ := h4.2.2 k hk
   exact ⟨e, he, hke, all_seen es seen h7 e he⟩
 ·have hel : e ∈ es.toList := by
   unfold leftOf at he
   simp at he ⊢
   exact he.1
  obtain ⟨hv, k, hk, hkS⟩ := h4.2.1 e hel
  have hc1 : Ch (fun j => j = r) w w1 := by
   rcases hw1 with rfl | rfl
   ·exact Ch.refl _ _
   ·exact Ch.drew _ _
  have hrl1 : r < w1.heap.size := Nat.lt_of_lt_of_le hrl hc1.size
  have hc2 : Ch (fun j => j = r) w (ChangeMaps.setBlock w1 r (.mapIter (some a) clock (seen.push e.born) clock)) := hc1.trans (setBlock_ch _ _ _) (fun _ h => .inl h)
  have ha2 : (ChangeMaps.setBlock w1 r (.mapIter (some a) clock (seen.push e.born) clock)).heap[a]? = some (.map es clock) := (hc2.same a (Array.getElem?_eq_some_iff.1 h3).1 hra).trans h3
  have hr2 := setBlock_heap (w := w1) (o := .mapIter (some a) clock (seen.push e.born) clock) hrl1
  have hen := run_entry_at (P := Try.prog) _ r a clock seen es clock e hr2 ha2 hel h4.1.2.1
  rw [hk] at h8 hen
  refine .inr ⟨k, e.val, _, _, h8, hen, ?_, ⟨es, clock, seen.push e.born, clock, hr2, Nat.le_refl _, ha2, h4, rfl, fun q => ?_⟩, hc2, hkS⟩
  ·rw [h5]
   exact left_shrinks es seen e he
  ·rw [List.mem_cons, h6 q]
   constructor
   ·rintro (rfl | ⟨e', he', hq, hs⟩)
    ·exact ⟨e, hel, hk, by simp⟩
    ·exact ⟨e', he', hq, by simp at hs ⊢; exact .inl hs⟩
   ·rintro ⟨e', he', hq, hs⟩
    by_cases heq : e'.born = e.born
    ·have := born_inj h4.1.2.1 he' hel heq
     subst this; rw [hk] at hq; cases hq; exact .inl rfl
    ·refine .inr ⟨e', he', hq, ?_⟩
     simp at hs ⊢
     rcases hs with hs | hs
     ·exact hs
     ·exact absurd hs heq
end Go.Proofs.Ytejciampbnfbhaa
